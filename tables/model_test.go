package tables_test

import (
	"bytes"
	"encoding/binary"
	"math"
	"slices"
	"testing"

	"crier/api"
	"crier/mem"
	"crier/tables"
)

// model is what the tables should be: a memory that lies open.
type model struct{ bytes []byte }

func (o *model) holds(w api.Window) bool {
	return w.At >= 0 && w.At <= len(o.bytes) && w.Size >= 0 && w.Size <= len(o.bytes)-w.At
}

// nth returns the 8 bytes of entry k of a window, or nothing if it does not exist.
func (o *model) nth(w api.Window, k int) []byte {
	if !o.holds(w) || k < 0 || k >= w.Size/8 {
		return nil
	}
	return o.bytes[w.At+8*k:][:8]
}

// number returns the number in bits first to last of an entry, bit by bit.
func number(b []byte, first, last int) int {
	n := 0
	for k := last; k >= first; k-- {
		n = 2*n + int(b[k/8]>>(k%8)&1)
	}
	return n
}

func isValid(b []byte) bool { return b[7] >= 0x80 }

// fill makes an entry consist of words of these bits.
func fill(b []byte, words ...uint64) {
	v := uint64(0)
	for _, w := range words {
		v += w
	}
	binary.LittleEndian.PutUint64(b, v)
}

func (o *model) right(t tables.Table) api.Errno {
	if !o.holds(t.Window) {
		return api.ErrUnmapped
	}
	for _, page := range pages() {
		if t.Page == page {
			return api.OK
		}
	}
	return api.ErrArg
}

// pages lists what Page may be.
func pages() []int {
	return []int{0, 8, 16, 32, 64, 128, 256, 512, 1024, 2048, 4096, 8192, 16384, 32768, 65536, 131072}
}

func (o *model) lead(t tables.Table, id, at int) api.Errno {
	if e := o.right(t); e != api.OK {
		return e
	}
	if t.Page == 0 || id < 0 || id > 131071 || !o.holds(win(at, t.Page)) {
		return api.ErrTable
	}
	b := o.nth(t.Window, id/(t.Page/8))
	if b == nil {
		return api.ErrTable
	}
	fill(b, 1<<63, uint64(at))
	return api.OK
}

// device returns the entry of a device, or an error.
func (o *model) device(t tables.Table, id int) ([]byte, api.Errno) {
	if e := o.right(t); e != api.OK {
		return nil, e
	}
	if id < 0 || id > 131071 {
		return nil, api.ErrTable
	}
	w, k := t.Window, id
	if t.Page > 0 {
		b := o.nth(w, id/(t.Page/8))
		if b == nil || !isValid(b) {
			return nil, api.ErrTable
		}
		w, k = win(number(b, 0, 31), t.Page), id%(t.Page/8)
	}
	b := o.nth(w, k)
	if b == nil {
		return nil, api.ErrTable
	}
	return b, api.OK
}

func (o *model) get(t tables.Table, id int) (tables.Device, api.Errno) {
	b, e := o.device(t, id)
	if e != api.OK || !isValid(b) {
		return tables.Device{}, e
	}
	return tables.Device{Valid: true, Bits: number(b, 0, 4), At: 256 * number(b, 8, 47)}, api.OK
}

func (o *model) put(t tables.Table, id int, d tables.Device) api.Errno {
	b, e := o.device(t, id)
	switch {
	case e != api.OK:
		return e
	case !d.Valid:
		clear(b)
	case d.Bits < 0 || d.Bits > 31 || d.At%256 != 0 || d.At < 0 || d.At > 1<<48-256:
		return api.ErrArg
	default:
		fill(b, 1<<63, uint64(d.Bits), uint64(d.At/256)*256)
	}
	return api.OK
}

func events(d tables.Device) int {
	n := 2
	for range min(d.Bits, 31) {
		n *= 2
	}
	return n
}

// event returns the entry of an event, or an error.
func (o *model) event(d tables.Device, ev int) ([]byte, api.Errno) {
	if !d.Valid || ev < 0 || ev >= events(d) {
		return nil, api.ErrEvent
	}
	// No sum of an address that is too great: ev is small, so that such an address is beyond the memory anyway.
	if d.At > len(o.bytes) || !o.holds(win(d.At+8*ev, 8)) {
		return nil, api.ErrTable
	}
	return o.bytes[d.At+8*ev:][:8], api.OK
}

func (o *model) route(d tables.Device, ev int) (api.Route, api.Errno) {
	b, e := o.event(d, ev)
	if e != api.OK || !isValid(b) {
		return api.Route{}, e
	}
	return api.Route{Number: number(b, 0, 31), Coll: number(b, 32, 47), Valid: true}, api.OK
}

func (o *model) setRoute(d tables.Device, ev int, r api.Route) api.Errno {
	b, e := o.event(d, ev)
	switch {
	case e != api.OK:
		return e
	case !r.Valid:
		clear(b)
	case r.Number < 0 || r.Number > 1<<32-1 || r.Coll < 0 || r.Coll > 65535:
		return api.ErrArg
	default:
		fill(b, 1<<63, uint64(r.Coll)<<32, uint64(r.Number))
	}
	return api.OK
}

// step is what a traversal of routes yields.
type step struct {
	ev int
	r  api.Route
}

func (o *model) routes(d tables.Device) []step {
	var l []step
	for ev := 0; ev < 16384; ev++ {
		r, e := o.route(d, ev)
		if e != api.OK {
			break
		}
		if r.Valid {
			l = append(l, step{ev, r})
		}
	}
	return l
}

// goal is what Target returns.
type goal struct {
	target int
	is     bool
	e      api.Errno
}

func (o *model) target(w api.Window, coll int) goal {
	b := o.nth(w, coll)
	if b == nil || coll > 131071 {
		return goal{e: api.ErrColl}
	}
	if !isValid(b) {
		return goal{}
	}
	return goal{number(b, 0, 15), true, api.OK}
}

func (o *model) setTarget(w api.Window, coll, target int, is bool) api.Errno {
	if coll < 0 || coll > 131071 {
		return api.ErrColl
	}
	if target < 0 || target > 65535 {
		return api.ErrArg
	}
	b := o.nth(w, coll)
	if b == nil {
		return api.ErrColl
	}
	clear(b)
	if is {
		fill(b, 1<<63, uint64(target))
	}
	return api.OK
}

// pair is a memory with tables, and what it should be.
type pair struct {
	m    *mem.Mem
	want model
}

// start returns a memory with these bytes.
func start(t *testing.T, b []byte) *pair {
	t.Helper()
	m, e := mem.New(len(b))
	if e != api.OK {
		t.Fatal(e)
	}
	m.Put(win(0, len(b)), b...)
	return &pair{m, model{slices.Clone(b)}}
}

// keeps reports where the memory differs from what it should be.
func (p *pair) keeps(t *testing.T) {
	t.Helper()
	got, _ := p.m.Bytes(win(0, p.m.Size()))
	if bytes.Equal(got, p.want.bytes) {
		return
	}
	for k, b := range got {
		if b != p.want.bytes[k] {
			t.Fatalf("byte %d: %#x, want %#x", k, b, p.want.bytes[k])
		}
	}
}

// poke stores a word in the memory, beside the tables.
func (p *pair) poke(at int, v uint64) {
	p.m.Write(win(at, 8), 0, 8, v)
	fill(p.want.bytes[at:], v)
}

func (p *pair) right(t *testing.T, x tables.Table) {
	t.Helper()
	if e, want := x.Right(p.m), p.want.right(x); e != want {
		t.Fatalf("%v: Right: %d, want %d", x, e, want)
	}
	p.keeps(t)
}

func (p *pair) lead(t *testing.T, x tables.Table, id, at int) {
	t.Helper()
	if e, want := x.Lead(p.m, id, at), p.want.lead(x, id, at); e != want {
		t.Fatalf("%v: Lead(%d, %d): %d, want %d", x, id, at, e, want)
	}
	p.keeps(t)
}

func (p *pair) get(t *testing.T, x tables.Table, id int) {
	t.Helper()
	d, e := x.Get(p.m, id)
	if want, f := p.want.get(x, id); d != want || e != f {
		t.Fatalf("%v: Get(%d): %v, %d, want %v, %d", x, id, d, e, want, f)
	}
	p.keeps(t)
}

func (p *pair) put(t *testing.T, x tables.Table, id int, d tables.Device) {
	t.Helper()
	if e, want := x.Put(p.m, id, d), p.want.put(x, id, d); e != want {
		t.Fatalf("%v: Put(%d, %v): %d, want %d", x, id, d, e, want)
	}
	p.keeps(t)
}

func (p *pair) route(t *testing.T, d tables.Device, ev int) {
	t.Helper()
	r, e := d.Route(p.m, ev)
	if want, f := p.want.route(d, ev); r != want || e != f {
		t.Fatalf("%v: Route(%d): %v, %d, want %v, %d", d, ev, r, e, want, f)
	}
	p.keeps(t)
}

func (p *pair) setRoute(t *testing.T, d tables.Device, ev int, r api.Route) {
	t.Helper()
	if e, want := d.SetRoute(p.m, ev, r), p.want.setRoute(d, ev, r); e != want {
		t.Fatalf("%v: SetRoute(%d, %v): %d, want %d", d, ev, r, e, want)
	}
	p.keeps(t)
}

func (p *pair) routes(t *testing.T, d tables.Device) {
	t.Helper()
	want := p.want.routes(d)
	if l := all(d, p.m); !slices.Equal(l, want) {
		t.Fatalf("%v: Routes: %v, want %v", d, l, want)
	}
	if n := d.Many(p.m); n != len(want) {
		t.Fatalf("%v: Many: %d, want %d", d, n, len(want))
	}
	p.keeps(t)
}

func (p *pair) target(t *testing.T, w api.Window, coll int) {
	t.Helper()
	k, is, e := tables.Target(p.m, w, coll)
	if got, want := (goal{k, is, e}), p.want.target(w, coll); got != want {
		t.Fatalf("%v: Target(%d): %v, want %v", w, coll, got, want)
	}
	p.keeps(t)
}

func (p *pair) setTarget(t *testing.T, w api.Window, coll, target int, is bool) {
	t.Helper()
	if e, want := tables.SetTarget(p.m, w, coll, target, is), p.want.setTarget(w, coll, target, is); e != want {
		t.Fatalf("%v: SetTarget(%d, %d, %v): %d, want %d", w, coll, target, is, e, want)
	}
	p.keeps(t)
}

// all returns what Routes yields.
func all(d tables.Device, m *mem.Mem) []step {
	var l []step
	for ev, r := range d.Routes(m) {
		l = append(l, step{ev, r})
	}
	return l
}

func win(at, size int) api.Window { return api.Window{At: at, Size: size} }

// in returns the table in a window.
func in(at, size, page int) tables.Table { return tables.Table{win(at, size), page} }

// dev returns a valid device.
func dev(bits, at int) tables.Device { return tables.Device{true, bits, at} }

// to returns a valid route.
func to(number, coll int) api.Route { return api.Route{Number: number, Coll: coll, Valid: true} }

// noise returns so many bytes, of which neighbours differ and none is 0.
func noise(size int) []byte {
	b := make([]byte, size)
	for k := range b {
		b[k] = byte(k%255 + 1)
	}
	return b
}

// ends lists numbers of both signs, up to both ends of int.
func ends() []int {
	l := []int{0, 3, -3, math.MaxInt, math.MaxInt - 7, math.MinInt, math.MinInt + 1, math.MinInt + 8}
	for k := range 63 {
		l = append(l, 1<<k, 1<<k-1, 1<<k+1, -1<<k, -1<<k-1)
	}
	return l
}

// outside lists windows that a memory of size bytes does not hold.
func outside(size int) []api.Window {
	return []api.Window{
		win(size+1, 0), win(size, 1), win(size-7, 8), win(0, size+1), win(1, size), win(8, size), win(size+8, -8), win(-1, 1), win(-8, 8), win(-8, 16),
		win(0, -1), win(8, -8), win(0, -8), win(-1, 0), win(1<<40, 8), win(0, 1<<40), win(1<<62, 1<<62), win(math.MaxInt, 1), win(math.MaxInt-7, 16),
		win(0, math.MaxInt), win(8, math.MaxInt-7), win(math.MinInt, 8), win(0, math.MinInt), win(math.MinInt, math.MinInt), win(math.MaxInt, math.MinInt),
	}
}

// roll returns a source of numbers below a given one, which depend on seed alone.
func roll(seed int) func(n int) int {
	x := uint64(seed)*2 + 1
	return func(n int) int {
		x = x*6364136223846793005 + 1442695040888963407
		return int(x >> 33 % uint64(n))
	}
}
