package its_test

import (
	"bytes"
	"math"
	"slices"
	"testing"

	"crier/api"
	"crier/cmd"
	"crier/its"
	"crier/lpi"
	"crier/mem"
	"crier/queue"
	"crier/tables"
)

// model is what a service should be, with a memory and with processors of its own. It finds its way through the tables
// word by word.
type model struct {
	its.Its
	m  *mem.Mem
	ts []*lpi.Lpis
}

func (o *model) holds(w api.Window) bool {
	return w.At >= 0 && w.At <= o.m.Size() && w.Size >= 0 && w.Size <= o.m.Size()-w.At
}

func (o *model) word(at int) uint64 {
	v, _ := o.m.Read(win(at, 8), 0, 8)
	return v
}

func (o *model) store(at int, v uint64) { o.m.Write(win(at, 8), 0, 8, v) }

// nth returns where entry k of a window is, or -1.
func (o *model) nth(w api.Window, k int) int {
	if !o.holds(w) || k < 0 || k >= w.Size/8 {
		return -1
	}
	return w.At + 8*k
}

// bits returns the number in bits first to last of a word.
func bits(v uint64, first, last int) int {
	n := 0
	for k := last; k >= first; k-- {
		n = 2*n + int(v>>k&1)
	}
	return n
}

func isValid(v uint64) bool { return v >= 1<<63 }

// record returns where the entry of a device is, or an error.
func (o *model) record(id int) (int, api.Errno) {
	t := o.Devices
	if !o.holds(t.Window) {
		return -1, api.ErrUnmapped
	}
	if !slices.Contains([]int{0, 8, 16, 32, 64, 128, 256, 512, 1024, 2048, 4096, 8192, 16384, 32768, 65536, 131072}, t.Page) {
		return -1, api.ErrArg
	}
	w, k := t.Window, id
	if t.Page > 0 && id >= 0 {
		lead := o.nth(w, id/(t.Page/8))
		if lead < 0 || !isValid(o.word(lead)) {
			return -1, api.ErrTable
		}
		w, k = win(bits(o.word(lead), 0, 31), t.Page), id%(t.Page/8)
	}
	at := o.nth(w, k)
	if at < 0 || id > 131071 {
		return -1, api.ErrTable
	}
	return at, api.OK
}

// device is a device, and what is wrong with it.
type device struct {
	tables.Device
	get api.Errno // of its entry
	e   api.Errno // of the device
}

func (o *model) device(id int) device {
	at, e := o.record(id)
	if e != api.OK {
		return device{get: e, e: e}
	}
	v := o.word(at)
	if !isValid(v) {
		return device{e: api.ErrDevice}
	}
	return device{Device: tables.Device{Valid: true, Bits: bits(v, 0, 4), At: 256 * bits(v, 8, 47)}}
}

// event is an event: where its entry is, the route that it contains, and what is wrong with it.
type event struct {
	at      int
	r       api.Route
	routeOf api.Errno // of its Route
	e       api.Errno // of the event
}

func (o *model) event(d device, ev int) event {
	many := 2
	for range d.Bits {
		many *= 2
	}
	x := event{at: d.At + 8*ev}
	switch {
	case d.e != api.OK:
		return event{e: d.e}
	case ev < 0 || ev >= many:
		x.routeOf = api.ErrEvent
	case !o.holds(win(x.at, 8)):
		x.routeOf = api.ErrTable
	default:
		if v := o.word(x.at); isValid(v) {
			x.r = api.Route{Number: bits(v, 0, 31), Coll: bits(v, 32, 47), Valid: true}
			return x
		}
	}
	if x.e = x.routeOf; x.e == api.OK {
		x.e = api.ErrEvent
	}
	return x
}

// coll is a collection: its target and the processor of that number, and what is wrong with it.
type coll struct {
	target   int
	l        *lpi.Lpis
	targetOf api.Errno // of its Target
	e        api.Errno // of the collection
	side     api.Errno // of its side
}

func (o *model) coll(k int) coll {
	at := o.nth(o.Colls, k)
	if at < 0 || k > 131071 {
		return coll{0, nil, api.ErrColl, api.ErrColl, api.ErrColl}
	}
	v := o.word(at)
	if !isValid(v) {
		return coll{e: api.ErrColl, side: api.ErrColl}
	}
	target := bits(v, 0, 15)
	if target >= len(o.ts) {
		return coll{target: target, side: api.ErrCore}
	}
	return coll{target: target, l: o.ts[target]}
}

// core returns what is wrong with the number of a processor.
func (o *model) core(k int) api.Errno {
	if k >= len(o.ts) {
		return api.ErrCore
	}
	return api.OK
}

// lpiError returns what is wrong with the number of an interrupt of a processor.
func lpiError(l *lpi.Lpis, number int) api.Errno {
	if l == nil || number < 8192 || number >= 8192+l.Many() {
		return api.ErrLpi
	}
	return api.OK
}

// first returns the first one that is an error.
func first(l ...api.Errno) api.Errno {
	for _, e := range l {
		if e != api.OK {
			return e
		}
	}
	return api.OK
}

// common reports whether windows have an address in common, by their addresses: those of a are few.
func common(a, b api.Window) bool {
	for k := range a.Size {
		if x := a.At + k; b.At >= 0 && b.At <= 1<<40 && b.Size >= 0 && b.Size <= 1<<40 && x >= b.At && x-b.At < b.Size {
			return true
		}
	}
	return false
}

// events returns the window that the table of events of Mapd has.
func events(c api.Command) api.Window { return win(c.Addr, 16<<c.Bits) }

func (o *model) mapdError(c api.Command) api.Errno {
	w := events(c)
	if !c.Valid {
		return api.OK
	}
	if !o.holds(w) || common(w, o.Devices.Window) || common(w, o.Colls) || common(w, o.Queue.Window) {
		return api.ErrTable
	}
	return api.OK
}

func (o *model) mapcError(c api.Command) api.Errno {
	if c.Valid {
		return o.core(c.Target)
	}
	return api.OK
}

// mapped returns the number that Mapti and Mapi give to an event.
func mapped(c api.Command) int {
	if c.Op == api.Mapi {
		return 8192 + c.Event
	}
	return c.Number
}

func mappedError(c api.Command) api.Errno {
	if n := mapped(c); n < 8192 || n > 16383 {
		return api.ErrLpi
	}
	return api.OK
}

// wrong returns the first error of a command.
func (o *model) wrong(c api.Command) api.Errno {
	if _, e := cmd.Encode(c); e != api.OK {
		return e
	}
	d, k := o.device(c.Device), o.coll(c.Coll)
	x := o.event(d, c.Event)
	own := o.coll(x.r.Coll)
	switch c.Op {
	case api.Mapd:
		return first(d.get, o.mapdError(c))
	case api.Mapc:
		return first(o.mapcError(c), k.targetOf)
	case api.Mapti, api.Mapi:
		return first(d.e, x.routeOf, mappedError(c), k.targetOf)
	case api.Movi:
		return first(x.e, k.side)
	case api.Discard:
		return x.e
	case api.Int, api.ClearOp, api.Inv:
		return first(x.e, own.side, lpiError(own.l, x.r.Number))
	case api.InvallOp:
		return k.side
	case api.Movall:
		return first(o.core(c.Target), o.core(c.Number))
	}
	return o.core(c.Target)
}

// route stores a route in the entry of an event.
func (o *model) route(at, number, coll int) { o.store(at, 1<<63+uint64(coll)<<32+uint64(number)) }

func (o *model) forget(x event) {
	if k := o.coll(x.r.Coll); k.side == api.OK {
		k.l.Set(o.m, x.r.Number, false)
	}
	o.store(x.at, 0)
}

func (o *model) mapd(c api.Command) api.Errno {
	d := o.device(c.Device)
	for ev := 0; d.Valid && ev < 16384; ev++ {
		x := o.event(d, ev)
		if x.routeOf != api.OK {
			break
		}
		if x.r.Valid {
			o.forget(x)
		}
	}
	if c.Valid {
		o.m.Put(events(c), make([]byte, 16<<c.Bits)...)
	}
	at, e := o.record(c.Device)
	switch {
	case e != api.OK:
		return e
	case c.Valid:
		o.store(at, 1<<63+uint64(c.Bits)+uint64(c.Addr))
	default:
		o.store(at, 0)
	}
	return api.OK
}

func (o *model) mapc(c api.Command) {
	v := uint64(0)
	if c.Valid {
		v = 1<<63 + uint64(c.Target)
	}
	o.store(o.nth(o.Colls, c.Coll), v)
}

func (o *model) mapti(c api.Command) {
	x := o.event(o.device(c.Device), c.Event)
	if x.r.Valid {
		o.forget(x)
	}
	if k := o.coll(c.Coll); k.side == api.OK {
		k.l.Inv(o.m, mapped(c))
	}
	o.route(x.at, mapped(c), c.Coll)
}

func (o *model) movi(c api.Command) {
	x, to := o.event(o.device(c.Device), c.Event), o.coll(c.Coll)
	if from := o.coll(x.r.Coll); from.side == api.OK {
		lpi.Move(o.m, x.r.Number, from.l, to.l)
	}
	to.l.Inv(o.m, x.r.Number)
	o.route(x.at, x.r.Number, c.Coll)
}

func (o *model) do(c api.Command) api.Errno {
	if e := o.wrong(c); e != api.OK {
		return e
	}
	x := o.event(o.device(c.Device), c.Event)
	own := o.coll(x.r.Coll)
	switch c.Op {
	case api.Mapd:
		return o.mapd(c)
	case api.Mapc:
		o.mapc(c)
	case api.Mapti, api.Mapi:
		o.mapti(c)
	case api.Movi:
		o.movi(c)
	case api.Discard:
		o.forget(x)
	case api.Int, api.ClearOp:
		own.l.Set(o.m, x.r.Number, c.Op == api.Int)
	case api.Inv:
		own.l.Inv(o.m, x.r.Number)
	case api.InvallOp:
		o.coll(c.Coll).l.InvAll(o.m)
	case api.Movall:
		lpi.MoveAll(o.m, o.ts[c.Target], o.ts[c.Number])
	}
	return api.OK
}

func (o *model) message(dev, ev int) api.Errno {
	if !o.On {
		return api.ErrOff
	}
	x := o.event(o.device(dev), ev)
	k := o.coll(x.r.Coll)
	if e := first(x.e, k.side, lpiError(k.l, x.r.Number)); e != api.OK {
		return e
	}
	k.l.Set(o.m, x.r.Number, true)
	return api.OK
}

// way is what Route returns.
type way struct {
	r      api.Route
	target int
	e      api.Errno
}

func (o *model) where(dev, ev int) way {
	x := o.event(o.device(dev), ev)
	k := o.coll(x.r.Coll)
	if !o.On {
		return way{e: api.ErrOff}
	}
	if e := first(x.e, k.e); e != api.OK {
		return way{e: e}
	}
	return way{x.r, k.target, api.OK}
}

// done is what Step returns.
type done struct {
	c api.Command
	e api.Errno
}

func (o *model) step() done {
	switch {
	case !o.On:
		return done{e: api.ErrOff}
	case o.Stalled:
		return done{e: api.ErrStalled}
	case o.Queue.Left() == 0:
		return done{e: api.ErrEmpty}
	}
	c, e := o.Queue.Head(o.m)
	if e = first(e, o.do(c)); e != api.OK {
		o.Stalled = true
		return done{e: e}
	}
	o.advance()
	return done{c: c}
}

// advance makes the queue pass one command.
func (o *model) advance() {
	if o.Queue.Left() > 0 {
		if o.Queue.Read += 32; o.Queue.Read == o.Queue.Window.Size {
			o.Queue.Read = 0
		}
	}
}

func (o *model) resume(pass bool) {
	if o.Stalled && pass {
		o.advance()
	}
	o.Stalled = false
}

func (o *model) run(most int) (int, api.Errno) {
	n := 0
	for n < most {
		switch x := o.step(); x.e {
		case api.OK:
			n++
		case api.ErrEmpty:
			return n, api.OK
		default:
			return n, x.e
		}
	}
	return n, api.OK
}

// pair is a service with its memory and the processors that it is given, and what they should be.
type pair struct {
	s    its.Its
	m    *mem.Mem
	ts   []*lpi.Lpis
	want model
}

// start returns a service with these fields in a memory with these bytes. There are no processors.
func start(t *testing.T, s its.Its, b []byte) *pair {
	t.Helper()
	m, e := mem.New(len(b))
	if e != api.OK {
		t.Fatal(e)
	}
	m.Put(win(0, len(b)), b...)
	return &pair{s: s, m: m, want: model{Its: s, m: m.Copy()}}
}

// core adds a processor, with tables at these addresses.
func (p *pair) core(t *testing.T, many, prop, pend int, on bool) {
	t.Helper()
	w, v := win(prop, many), win(pend, (many+7)/8)
	l, e := lpi.New(p.m, many, w, v)
	o, _ := lpi.New(p.want.m, many, w, v)
	if e != api.OK {
		t.Fatal(e)
	}
	if on {
		l.Enable(p.m)
		o.Enable(p.want.m)
	}
	p.ts, p.want.ts = append(p.ts, l), append(p.want.ts, o)
}

// again returns a pair that is as this one is.
func (p *pair) again() *pair {
	q := &pair{s: p.s, m: p.m.Copy(), want: model{Its: p.want.Its, m: p.want.m.Copy()}}
	for k := range p.ts {
		q.ts, q.want.ts = append(q.ts, p.ts[k].Copy()), append(q.want.ts, p.want.ts[k].Copy())
	}
	return q
}

// keeps reports where anything differs from what it should be.
func (p *pair) keeps(t *testing.T) {
	t.Helper()
	if p.s != p.want.Its {
		t.Fatalf("the service: %v, want %v", p.s, p.want.Its)
	}
	same(t, p.m, p.want.m)
	if len(p.ts) != len(p.want.ts) {
		t.Fatalf("%d processors, want %d", len(p.ts), len(p.want.ts))
	}
	for k, l := range p.ts {
		p.keepsCore(t, k, l, p.want.ts[k])
	}
}

// same reports where a memory differs from what it should be.
func same(t *testing.T, m, want *mem.Mem) {
	t.Helper()
	got, _ := m.Bytes(win(0, m.Size()))
	b, _ := want.Bytes(win(0, want.Size()))
	if bytes.Equal(got, b) {
		return
	}
	for k := range b {
		if got[k] != b[k] {
			t.Fatalf("byte %d: %#x, want %#x", k, got[k], b[k])
		}
	}
}

func (p *pair) keepsCore(t *testing.T, k int, l, want *lpi.Lpis) {
	t.Helper()
	if l.On() != want.On() || l.Many() != want.Many() || l.Best() != want.Best() {
		t.Fatalf("processor %d: %v, %d, %v, want %v, %d, %v", k, l.On(), l.Many(), l.Best(), want.On(), want.Many(), want.Best())
	}
	if got, w := slices.Collect(l.Waiting(p.m)), slices.Collect(want.Waiting(p.want.m)); !slices.Equal(got, w) {
		t.Fatalf("processor %d: pending are %v, want %v", k, got, w)
	}
	for id := 8192; id < 8192+l.Many(); id++ {
		in, n := l.Setup(id)
		if is, w := want.Setup(id); in != is || n != w {
			t.Fatalf("processor %d: Setup(%d): %v, %d, want %v, %d", k, id, in, n, is, w)
		}
	}
}

// do executes a command, and returns its error.
func (p *pair) do(t *testing.T, c api.Command) api.Errno {
	t.Helper()
	e := p.s.Do(p.m, p.ts, c)
	if want := p.want.do(c); e != want {
		t.Fatalf("Do(%v): %d, want %d", c, e, want)
	}
	p.keeps(t)
	return e
}

// must executes commands, of which none fails.
func (p *pair) must(t *testing.T, cs ...api.Command) {
	t.Helper()
	for _, c := range cs {
		if e := p.do(t, c); e != api.OK {
			t.Fatalf("Do(%v): %d", c, e)
		}
	}
}

// fails executes a command that returns this error.
func (p *pair) fails(t *testing.T, c api.Command, want api.Errno) {
	t.Helper()
	if e := p.do(t, c); e != want {
		t.Fatalf("Do(%v): %d, want %d", c, e, want)
	}
}

func (p *pair) message(t *testing.T, dev, ev int) api.Errno {
	t.Helper()
	e := p.s.Message(p.m, p.ts, dev, ev)
	if want := p.want.message(dev, ev); e != want {
		t.Fatalf("Message(%d, %d): %d, want %d", dev, ev, e, want)
	}
	p.keeps(t)
	return e
}

func (p *pair) route(t *testing.T, dev, ev int) way {
	t.Helper()
	r, target, e := p.s.Route(p.m, dev, ev)
	if want := p.want.where(dev, ev); (way{r, target, e}) != want {
		t.Fatalf("Route(%d, %d): %v, %d, %d, want %v", dev, ev, r, target, e, want)
	}
	p.keeps(t)
	return way{r, target, e}
}

func (p *pair) step(t *testing.T) done {
	t.Helper()
	c, e := p.s.Step(p.m, p.ts)
	if want := p.want.step(); (done{c, e}) != want {
		t.Fatalf("Step: %v, %d, want %v", c, e, want)
	}
	p.keeps(t)
	return done{c, e}
}

func (p *pair) resume(t *testing.T, pass bool) {
	t.Helper()
	p.s.Resume(pass)
	p.want.resume(pass)
	p.keeps(t)
}

func (p *pair) run(t *testing.T, most int) (int, api.Errno) {
	t.Helper()
	n, e := p.s.Run(p.m, p.ts, most)
	if want, f := p.want.run(most); n != want || e != f {
		t.Fatalf("Run(%d): %d, %d, want %d, %d", most, n, e, want, f)
	}
	p.keeps(t)
	return n, e
}

// change gives the service other fields.
func (p *pair) change(by func(s *its.Its)) {
	by(&p.s)
	by(&p.want.Its)
}

// poke stores a word in the memory, beside the service.
func (p *pair) poke(at int, v uint64) {
	p.m.Write(win(at, 8), 0, 8, v)
	p.want.store(at, v)
}

// put stores bytes in the memory, beside the service.
func (p *pair) put(at int, b ...byte) {
	p.m.Put(win(at, len(b)), b...)
	p.want.m.Put(win(at, len(b)), b...)
}

// fill adds commands to the queue, which has room for them.
func (p *pair) fill(t *testing.T, cs ...api.Command) {
	t.Helper()
	if n, e := p.s.Queue.Fill(p.m, cs...); n != len(cs) || e != api.OK {
		t.Fatal(n, e)
	}
	p.want.Queue.Fill(p.want.m, cs...)
}

// set makes an interrupt of a processor pending, or not pending, beside the service.
func (p *pair) set(t *testing.T, k, id int, is bool) {
	t.Helper()
	if _, e := p.ts[k].Set(p.m, id, is); e != api.OK {
		t.Fatal(e)
	}
	p.want.ts[k].Set(p.want.m, id, is)
}

// waits reports whether these are all interrupts that are pending at a processor.
func (p *pair) waits(t *testing.T, k int, ids ...int) {
	t.Helper()
	if got := slices.Collect(p.ts[k].Waiting(p.m)); !slices.Equal(got, ids) {
		t.Fatalf("processor %d: pending are %v, want %v", k, got, ids)
	}
}

// load returns a word of the memory.
func (p *pair) load(at int) uint64 {
	v, _ := p.m.Read(win(at, 8), 0, 8)
	return v
}

func win(at, size int) api.Window { return api.Window{At: at, Size: size} }

// flat returns a table of devices without pages.
func flat(at, size int) tables.Table { return tables.Table{Window: win(at, size)} }

// over returns a queue in which nothing waits.
func over(at, size int) queue.Queue { return queue.Queue{Window: win(at, size)} }

func mapd(dev, bits, addr int) api.Command {
	return api.Command{Op: api.Mapd, Device: dev, Bits: bits, Addr: addr, Valid: true}
}

func mapc(coll, target int) api.Command {
	return api.Command{Op: api.Mapc, Coll: coll, Target: target, Valid: true}
}

func mapti(dev, ev, number, coll int) api.Command {
	return api.Command{Op: api.Mapti, Device: dev, Event: ev, Number: number, Coll: coll}
}

func mapi(dev, ev, coll int) api.Command {
	return api.Command{Op: api.Mapi, Device: dev, Event: ev, Coll: coll}
}

func movi(dev, ev, coll int) api.Command {
	return api.Command{Op: api.Movi, Device: dev, Event: ev, Coll: coll}
}

// at returns a command that has a device and an event.
func at(op api.Op, dev, ev int) api.Command { return api.Command{Op: op, Device: dev, Event: ev} }

func invall(coll int) api.Command { return api.Command{Op: api.InvallOp, Coll: coll} }

func movall(from, to int) api.Command {
	return api.Command{Op: api.Movall, Target: from, Number: to}
}

func syncs(target int) api.Command { return api.Command{Op: api.Sync, Target: target} }

// noise returns so many bytes, of which neighbours differ and none is 0.
func noise(size int) []byte {
	b := make([]byte, size)
	for k := range b {
		b[k] = byte(k%255 + 1)
	}
	return b
}

// ends lists numbers of both signs, up to both ends of int.
func ends() []int {
	l := []int{0, 3, -3, math.MaxInt, math.MaxInt - 7, math.MinInt, math.MinInt + 1, math.MinInt + 8}
	for k := range 63 {
		l = append(l, 1<<k, 1<<k-1, 1<<k+1, -1<<k, -1<<k-1)
	}
	return l
}

// outside lists windows that a memory of size bytes does not hold.
func outside(size int) []api.Window {
	return []api.Window{
		win(size+1, 0), win(size, 1), win(size-7, 8), win(0, size+1), win(1, size), win(8, size), win(size+8, -8), win(-1, 1), win(-8, 8), win(-8, 16),
		win(0, -1), win(8, -8), win(0, -8), win(-1, 0), win(1<<40, 8), win(0, 1<<40), win(1<<62, 1<<62), win(math.MaxInt, 1), win(math.MaxInt-7, 16),
		win(0, math.MaxInt), win(8, math.MaxInt-7), win(math.MinInt, 8), win(0, math.MinInt), win(math.MinInt, math.MinInt), win(math.MaxInt, math.MinInt),
	}
}

// roll returns a source of numbers below a given one, which depend on seed alone.
func roll(seed int) func(n int) int {
	x := uint64(seed)*2 + 1
	return func(n int) int {
		x = x*6364136223846793005 + 1442695040888963407
		return int(x >> 33 % uint64(n))
	}
}
