package frame_test

import (
	"math"
	"slices"
	"testing"

	"crier/api"
	"crier/bank"
	"crier/frame"
	"crier/regs"
)

// item is an interrupt of a bank.
type item struct {
	id int
	e  bank.Entry[int]
}

// described lists the registers of which frames tell.
func described() []api.Reg {
	return []api.Reg{
		api.Igroup, api.Isenable, api.Icenable, api.Ispend, api.Icpend, api.Isactive, api.Icactive, api.Ipriority, api.Icfg,
	}
}

// others lists registers of which frames do not tell, and numbers that are none.
func others() []api.Reg {
	return []api.Reg{
		api.NoReg, api.Ctlr, api.Typer, api.Waker, api.Irouter, api.Propbase, api.Pendbase, api.Invlpi, api.Invall, api.Syncr, api.Cbaser,
		api.Cwriter, api.Creadr, api.Creadr + 1, -1, -api.Igroup, 1<<32 + api.Igroup, 1<<32 + api.Ipriority, math.MinInt, math.MinInt + api.Icfg,
		math.MaxInt,
	}
}

// ends lists numbers on both sides of those that the chapters name, and at both ends of int.
func ends() []int {
	return []int{
		math.MinInt, math.MinInt + 1, math.MinInt + 32, math.MinInt + 63, -1 << 62, -1 << 32, -1<<32 + 40, -16384, -64, -33, -32, -1, 0, 1, 15, 16, 31,
		32, 33, 40, 63, 64, 95, 96, 127, 1019, 1020, 1023, 1024, 8191, 8192, 16383, 16384, 1 << 32, 1<<32 + 40, 1 << 62, math.MaxInt - 16384,
		math.MaxInt - 63, math.MaxInt - 1, math.MaxInt,
	}
}

// values lists numbers of 64 bits.
func values() []uint64 {
	some := []uint64{
		0, 1, 2, 3, 5, 0xff, 0x0a000000, 0xf8f7080700ff, 0x0123456789abcdef, 0x5555555555555555, 0xaaaaaaaaaaaaaaaa, 1 << 31, 1 << 32, 1 << 62, 1 << 63,
		1<<63 - 1, 1<<64 - 2, 1<<64 - 1,
	}
	next := roll(7)
	for range 10 {
		some = append(some, word(next))
	}
	return some
}

// roll returns a source of numbers below a given one, which depend on seed alone.
func roll(seed int) func(n int) int {
	x := uint64(seed)*2 + 1
	return func(n int) int {
		x = x*6364136223846793005 + 1442695040888963407
		return int(x >> 33 % uint64(n))
	}
}

// word returns a number of 64 bits.
func word(next func(n int) int) uint64 {
	return uint64(next(1<<31))<<33 | uint64(next(1<<31))<<2 | uint64(next(4))
}

// state returns the n-th of the 16 states of an interrupt.
func state(n int) api.Irq {
	return api.Irq{Edge: n&1 != 0, Line: n&2 != 0, Latch: n&4 != 0, Active: n&8 != 0}
}

// lines lists all that an interrupt can be, with some priorities.
func lines() []api.Line {
	var row []api.Line
	for n := range 16 {
		for _, enabled := range []bool{false, true} {
			for group := range 2 {
				for _, priority := range []int{0, 8, 0xa8, 0xf8} {
					row = append(row, api.Line{Irq: state(n), Enabled: enabled, Group: group, Priority: priority})
				}
			}
		}
	}
	return row
}

// made returns a bank with some lines from number first on, each with its number's negative as additional value.
func made(t *testing.T, first int, row []api.Line) *bank.Bank[int] {
	t.Helper()
	b, err := bank.New(first, len(row), 0)
	if err != api.OK {
		t.Fatalf("New(%d, %d): %v", first, len(row), err)
	}
	for i, l := range row {
		if err := b.Put(first+i, bank.Entry[int]{Line: l, Extra: -first - i}); err != api.OK {
			t.Fatalf("Put(%d, %v): %v", first+i, l, err)
		}
	}
	return b
}

// mixed returns a bank of n interrupts, all of which differ in many ways.
func mixed(t *testing.T, first, n, seed int) *bank.Bank[int] {
	t.Helper()
	next, some := roll(seed), lines()
	row := make([]api.Line, n)
	for i := range row {
		row[i] = some[next(len(some))]
	}
	return made(t, first, row)
}

func collect(b *bank.Bank[int]) []item {
	var row []item
	for id, e := range b.All() {
		row = append(row, item{id, e})
	}
	return row
}

// wide returns how many bits the field of an interrupt has.
func wide(reg api.Reg) int {
	return 1 + map[api.Reg]int{api.Ipriority: 7, api.Icfg: 1, api.Irouter: 62}[reg]
}

// read returns what should be read from a bank with some interrupts: bit by bit.
func read(row []item, p api.Place) uint64 {
	v := uint64(0)
	for bit := range 64 {
		k := bit / wide(p.Reg)
		i := slices.IndexFunc(row, func(x item) bool { return k < p.Count && x.id == p.First+k })
		if i >= 0 && isOne(row[i].e.Line, p.Reg, bit%wide(p.Reg)) {
			v += 1 << bit
		}
	}
	return v
}

// isOne reports whether a bit of the field of an interrupt should be 1.
func isOne(l api.Line, reg api.Reg, bit int) bool {
	switch reg {
	case api.Igroup:
		return l.Group == 1
	case api.Isenable, api.Icenable:
		return l.Enabled
	case api.Ispend, api.Icpend:
		return l.Latch || l.Line && !l.Edge
	case api.Isactive, api.Icactive:
		return l.Active
	case api.Ipriority:
		return l.Priority>>bit&1 == 1
	case api.Icfg:
		return bit == 1 && l.Edge
	}
	return false
}

// write returns what the interrupts of a bank should be after a write, and how many differ: bit by bit.
func write(row []item, p api.Place, v uint64) ([]item, int) {
	now, n := slices.Clone(row), 0
	for k := 0; k < p.Count; k++ {
		i := slices.IndexFunc(now, func(x item) bool { return x.id == p.First+k })
		if i < 0 {
			continue
		}
		for bit := range wide(p.Reg) {
			at := wide(p.Reg)*k + bit
			setBit(&now[i].e.Line, now[i].id, p.Reg, bit, at < 64 && v>>at&1 == 1)
		}
		if now[i] != row[i] {
			n++
		}
	}
	return now, n
}

// setBit changes an interrupt as a bit of its field should.
func setBit(l *api.Line, id int, reg api.Reg, bit int, is bool) {
	switch reg {
	case api.Igroup:
		l.Group = 0
		if is {
			l.Group = 1
		}
	case api.Isenable:
		l.Enabled = l.Enabled || is
	case api.Icenable:
		l.Enabled = l.Enabled && !is
	case api.Ispend:
		l.Latch = l.Latch || is
	case api.Icpend:
		l.Latch = l.Latch && !is
	case api.Isactive:
		l.Active = l.Active || is
	case api.Icactive:
		l.Active = l.Active && !is
	case api.Ipriority:
		l.Priority -= l.Priority & (1 << bit)
		if is && bit >= 3 {
			l.Priority += 1 << bit
		}
	case api.Icfg:
		if bit == 1 && id >= 16 {
			l.Edge = is
		}
	}
}

// reads reports where Read differs from what it should return, or changes the bank.
func reads(t *testing.T, b *bank.Bank[int], p api.Place) {
	t.Helper()
	row := collect(b)
	if got, want := frame.Read(b, p), read(row, p); got != want {
		t.Errorf("Read of %v: %#x, want %#x", p, got, want)
	}
	if now := collect(b); !slices.Equal(now, row) {
		t.Errorf("Read of %v has changed the bank: %v, want %v", p, now, row)
	}
}

// writes reports where Write differs from what it should do; it leaves the bank written.
func writes(t *testing.T, b *bank.Bank[int], p api.Place, v uint64) {
	t.Helper()
	want, most := write(collect(b), p, v)
	if n := frame.Write(b, p, v); n != most {
		t.Errorf("Write of %#x to %v: %d, want %d", v, p, n, most)
	}
	if now := collect(b); !slices.Equal(now, want) {
		t.Errorf("Write of %#x to %v: %v, want %v", v, p, now, want)
	}
	if n := frame.Write(b, p, v); n != 0 {
		t.Errorf("Write of %#x to %v again: %d", v, p, n)
	}
}

// places lists those that regs returns for a distributor and for a redistributor.
func places() []api.Place {
	var all []api.Place
	for off := 0; off < api.RedistSize; off += 4 {
		for _, width := range []int{4, 8} {
			for _, decode := range []func(int, int) (api.Place, api.Errno){regs.Dist, regs.Redist} {
				if p, err := decode(off, width); err == api.OK && p != (api.Place{}) {
					all = append(all, p)
				}
			}
		}
	}
	return all
}

func TestExamples(t *testing.T) { // P11.1, P11.2
	b := made(t, 32, make([]api.Line, 64))
	for _, x := range []struct {
		p       api.Place
		v       uint64
		n       int
		reading uint64
	}{
		{api.Place{Reg: api.Isenable, First: 32, Count: 32}, 5, 2, 5}, {api.Place{Reg: api.Icenable, First: 32, Count: 32}, 4, 1, 1},
		{api.Place{Reg: api.Ipriority, First: 36, Count: 4}, 0xff, 1, 0xf8}, {api.Place{Reg: api.Icfg, First: 32, Count: 16}, 2, 1, 2},
	} {
		if n := frame.Write(b, x.p, x.v); n != x.n {
			t.Errorf("Write of %#x to %v: %d, want %d", x.v, x.p, n, x.n)
		}
		if v := frame.Read(b, x.p); v != x.reading {
			t.Errorf("Read of %v: %#x, want %#x", x.p, v, x.reading)
		}
	}
	if e, _ := b.Get(32); e.Line != (api.Line{Irq: api.Irq{Edge: true}, Enabled: true}) || e.Extra != -32 {
		t.Errorf("Get(32): %v", e)
	}
	if e, _ := b.Get(36); e.Line != (api.Line{Priority: 248}) {
		t.Errorf("Get(36): %v", e)
	}
}

func TestReadOfEachLine(t *testing.T) { // P11.1
	for _, l := range lines() {
		pending := uint64(0)
		if l.Latch || l.Line && !l.Edge {
			pending = 1
		}
		want := map[api.Reg]uint64{
			api.Igroup: uint64(l.Group), api.Isenable: bit(l.Enabled), api.Icenable: bit(l.Enabled), api.Ispend: pending, api.Icpend: pending,
			api.Isactive: bit(l.Active), api.Icactive: bit(l.Active), api.Ipriority: uint64(l.Priority), api.Icfg: 2 * bit(l.Edge),
		}
		b := made(t, 40, []api.Line{{}, l, {}})
		for _, reg := range append(described(), others()...) {
			if v := frame.Read(b, api.Place{Reg: reg, First: 41, Count: 1}); v != want[reg] {
				t.Errorf("Read of %d, %v: %#x, want %#x", int(reg), l, v, want[reg])
			}
			if v := frame.Read(b, api.Place{Reg: reg, First: 39, Count: 4}); v != want[reg]<<(2*wide(reg)) {
				t.Errorf("Read of %d, from 39 on, %v: %#x, want %#x", int(reg), l, v, want[reg]<<(2*wide(reg)))
			}
			reads(t, b, api.Place{Reg: reg, First: 40, Count: 3})
		}
	}
}

// bit returns 1 for true.
func bit(is bool) uint64 {
	return map[bool]uint64{true: 1}[is]
}

func TestReadAtEachIndex(t *testing.T) { // P11.1
	all := api.Line{Irq: api.Irq{Edge: true, Line: true, Latch: true, Active: true}, Enabled: true, Group: 1, Priority: 0xf8}
	fields := map[api.Reg]uint64{api.Ipriority: 0xf8, api.Icfg: 2}
	for k := range 64 {
		row := make([]api.Line, 64)
		row[k] = all
		b := made(t, 32, row)
		for _, reg := range described() {
			field := max(fields[reg], 1)
			want := uint64(0)
			if k*wide(reg) < 64 {
				want = field << (k * wide(reg))
			}
			if v := frame.Read(b, api.Place{Reg: reg, First: 32, Count: 64}); v != want {
				t.Errorf("Read of %d, interrupt %d: %#x, want %#x", int(reg), k, v, want)
			}
			// One interrupt fewer than are needed, then just enough.
			if v := frame.Read(b, api.Place{Reg: reg, First: 32, Count: k}); v != 0 {
				t.Errorf("Read of %d interrupts of %d: %#x", k, int(reg), v)
			}
			if v := frame.Read(b, api.Place{Reg: reg, First: 32, Count: k + 1}); v != want {
				t.Errorf("Read of %d interrupts of %d: %#x, want %#x", k+1, int(reg), v, want)
			}
		}
	}
}

func TestWriteOfEachLine(t *testing.T) { // P11.2
	for _, id := range []int{0, 15, 16, 31, 32, 1019, 8192, 16383} {
		for _, l := range lines() {
			for _, reg := range append(described(), others()...) {
				for _, x := range []uint64{0, 1, 2, 3, 4, 7, 8, 0x80, 0xa7, 0xff, 0x100, 0x101, 1<<64 - 1} {
					writes(t, made(t, id, []api.Line{l}), api.Place{Reg: reg, First: id, Count: 1}, x)
				}
			}
		}
	}
}

func TestWrittenOutWrites(t *testing.T) { // P11.2
	on := func(change func(l *api.Line)) api.Line {
		l := api.Line{Irq: api.Irq{Line: true}, Enabled: true, Group: 1, Priority: 0xa0}
		change(&l)
		return l
	}
	same := func(l *api.Line) {}
	for _, x := range []struct {
		id   int
		reg  api.Reg
		x    uint64
		want api.Line
		n    int
	}{
		{32, api.Igroup, 1, on(same), 0}, {32, api.Igroup, 0, on(func(l *api.Line) { l.Group = 0 }), 1},
		{32, api.Isenable, 1, on(same), 0}, {32, api.Isenable, 0, on(same), 0}, {32, api.Icenable, 0, on(same), 0},
		{32, api.Icenable, 1, on(func(l *api.Line) { l.Enabled = false }), 1},
		// It was pending before, by its line, and is different nevertheless.
		{32, api.Ispend, 1, on(func(l *api.Line) { l.Latch = true }), 1}, {32, api.Ispend, 0, on(same), 0},
		// Its line keeps it pending.
		{32, api.Icpend, 1, on(same), 0}, {32, api.Icpend, 0, on(same), 0},
		{32, api.Isactive, 1, on(func(l *api.Line) { l.Active = true }), 1}, {32, api.Isactive, 0, on(same), 0}, {32, api.Icactive, 1, on(same), 0},
		{32, api.Ipriority, 0xa0, on(same), 0}, {32, api.Ipriority, 0xa7, on(same), 0}, {32, api.Ipriority, 0x1a0, on(same), 0},
		{32, api.Ipriority, 7, on(func(l *api.Line) { l.Priority = 0 }), 1}, {32, api.Ipriority, 0xff, on(func(l *api.Line) { l.Priority = 0xf8 }), 1},
		{32, api.Icfg, 2, on(func(l *api.Line) { l.Edge = true }), 1}, {32, api.Icfg, 3, on(func(l *api.Line) { l.Edge = true }), 1},
		{32, api.Icfg, 0, on(same), 0}, {32, api.Icfg, 1, on(same), 0}, {32, api.Icfg, 4, on(same), 0},
		{16, api.Icfg, 2, on(func(l *api.Line) { l.Edge = true }), 1}, {15, api.Icfg, 2, on(same), 0}, {0, api.Icfg, 3, on(same), 0},
		{15, api.Ispend, 1, on(func(l *api.Line) { l.Latch = true }), 1}, {15, api.Icenable, 1, on(func(l *api.Line) { l.Enabled = false }), 1},
		{32, api.Irouter, 1, on(same), 0}, {32, api.Ctlr, 3, on(same), 0}, {32, api.NoReg, 1, on(same), 0}, {32, -1, 1, on(same), 0},
	} {
		b := made(t, x.id, []api.Line{on(same)})
		n := frame.Write(b, api.Place{Reg: x.reg, First: x.id, Count: 1}, x.x)
		if e, _ := b.Get(x.id); e != (bank.Entry[int]{Line: x.want, Extra: -x.id}) || n != x.n {
			t.Errorf("Write of %#x to %d, interrupt %d: %v, %d, want %v, %d", x.x, int(x.reg), x.id, e, n, x.want, x.n)
		}
	}
}

func TestCallsOfProcessorsKeepTheirTrigger(t *testing.T) { // P11.2
	row := make([]api.Line, 32)
	for i := range 16 {
		row[i].Edge = true
	}
	b := made(t, 0, row)
	for _, x := range []struct {
		first int
		v     uint64
		n     int
		read  uint64
	}{
		{0, 0, 0, 0xaaaaaaaa}, {0, 0x55555555, 0, 0xaaaaaaaa}, {0, 0xffffffff, 0, 0xaaaaaaaa}, {16, 0xffffffff, 16, 0xaaaaaaaa},
		{16, 0x80000001, 15, 0x80000000}, {8, 0, 0, 0x0000aaaa}, {8, 0xaaaaaaaa, 8, 0xaaaaaaaa}, {8, 0, 8, 0x0000aaaa},
	} {
		p := api.Place{Reg: api.Icfg, First: x.first, Count: 16}
		if n := frame.Write(b, p, x.v); n != x.n {
			t.Errorf("Write of %#x to %v: %d, want %d", x.v, p, n, x.n)
		}
		if v := frame.Read(b, p); v != x.read {
			t.Errorf("Read of %v: %#x, want %#x", p, v, x.read)
		}
	}
}

func TestEachPlaceOfTheFrames(t *testing.T) { // P11.1, P11.2
	own, shared := mixed(t, 0, 32, 1), mixed(t, 32, 64, 2)
	next := roll(3)
	for _, p := range places() {
		for _, b := range []*bank.Bank[int]{own, shared} {
			reads(t, b, p)
			writes(t, b, p, word(next))
			reads(t, b, p)
		}
		if t.Failed() {
			return
		}
	}
}

func TestPlacesBesideABank(t *testing.T) { // P11.1, P11.2
	for _, from := range []int{0, 7, 40, 16384 - 20} {
		for _, n := range []int{0, 1, 5, 20} {
			for first := from - 66; first < from+n+3; first += 1 + (n+1)%3 {
				for _, reg := range described() {
					for _, count := range []int{1, 4, 16, 33, 64} {
						b := mixed(t, from, n, first+count)
						p := api.Place{Reg: reg, First: first, Count: count}
						reads(t, b, p)
						writes(t, b, p, 0x9e3779b97f4a7c15*uint64(first+count))
					}
				}
			}
			if t.Failed() {
				return
			}
		}
	}
}

func TestPlacesAtTheEndsOfInt(t *testing.T) { // P11.1, P11.2, W1, W5
	counts := []int{math.MinInt, math.MinInt + 1, math.MinInt + 64, -1 << 32, -64, -1, 0, 1, 2, 31, 32, 63, 64}
	own, shared := mixed(t, 0, 32, 4), mixed(t, 32, 64, 5)
	for _, first := range ends() {
		for i, count := range counts {
			for _, reg := range append(described(), others()...) {
				for _, b := range []*bank.Bank[int]{own, shared} {
					p := api.Place{Reg: reg, First: first, Count: count}
					reads(t, b, p)
					writes(t, b, p, values()[(i*11+int(reg)&63)%len(values())])
				}
			}
		}
	}
}

func TestPlacesThatAreTooLong(t *testing.T) { // W1: only that the calls end
	for _, count := range []int{65, 16384, 16385, 1 << 32, math.MaxInt} {
		for _, first := range ends() {
			for _, reg := range []api.Reg{api.Igroup, api.Icfg, api.Ipriority, api.Irouter, -1} {
				b := mixed(t, 32, 64, 6)
				p := api.Place{Reg: reg, First: first, Count: count}
				frame.Read(b, p)
				if n := frame.Write(b, p, 1<<64-1); n < 0 || n > 64 {
					t.Errorf("Write to %v: %d", p, n)
				}
			}
		}
	}
}

func TestFieldsBeyondTheValue(t *testing.T) { // P11.1, P11.2
	row := slices.Repeat([]api.Line{{Irq: api.Irq{Edge: true}, Priority: 0x88}}, 64)
	b := made(t, 32, row)
	p := api.Place{Reg: api.Ipriority, First: 32, Count: 64}
	if v := frame.Read(b, p); v != 0x8888888888888888 {
		t.Errorf("Read of priorities: %#x", v)
	}
	// What does not exist is read as 0, so that the other 56 have the priority 0 then.
	if n := frame.Write(b, p, 0x8888888888888888); n != 56 || bank.Best(b.All()).ID != 40 {
		t.Errorf("Write of priorities: %d, %v", n, bank.Best(b.All()))
	}
	p.Reg = api.Icfg
	if n := frame.Write(b, p, 1<<64-1); n != 32 || frame.Read(b, p) != 0xaaaaaaaaaaaaaaaa {
		t.Errorf("Write of configurations: %d, %#x", n, frame.Read(b, p))
	}
	if e, _ := b.Get(64); e.Edge {
		t.Errorf("Get(64): %v", e)
	}
	for _, reg := range []api.Reg{api.Igroup, api.Ispend, api.Isactive, api.Isenable} {
		p.Reg = reg
		if n := frame.Write(b, p, 1<<63+1); n != 2 || frame.Read(b, p) != 1<<63+1 {
			t.Errorf("Write to %d: %d, %#x", int(reg), n, frame.Read(b, p))
		}
	}
}

func TestManyWrites(t *testing.T) { // P11.1, P11.2
	next := roll(8)
	all := append(described(), others()...)
	own, shared := mixed(t, 0, 32, 9), mixed(t, 32, 64, 10)
	for range 20000 {
		b := own
		if next(2) == 0 {
			b = shared
		}
		p := api.Place{Reg: all[next(len(all))], First: next(110) - 10, Count: next(65)}
		if next(3) > 0 {
			p.Reg = described()[next(len(described()))]
		}
		reads(t, b, p)
		writes(t, b, p, word(next)&word(next))
		reads(t, b, p)
		if t.Failed() {
			return
		}
	}
}

func TestBanksOfAnyType(t *testing.T) { // P11.1 to P11.3: with additional values that Go cannot compare among them
	words, _ := bank.New(32, 4, []string{"x"})
	p := api.Place{Reg: api.Isactive, First: 32, Count: 32}
	if n := frame.Write(words, p, 6); n != 2 || frame.Read(words, p) != 6 {
		t.Errorf("slices: %d, %#x", n, frame.Read(words, p))
	}
	for id, e := range frame.Only(words, 33).All() {
		if e.Active != (id == 33) || !slices.Equal(e.Extra, []string{"x"}) {
			t.Errorf("slices: interrupt %d: %v", id, e)
		}
	}
	funcs, _ := bank.New(32, 4, func() int { return 7 })
	if n := frame.Write(funcs, p, 9); n != 2 || frame.Read(frame.Only(funcs, 35), p) != 8 {
		t.Errorf("functions: %d", n)
	}
	sum := 0
	for _, e := range frame.Only(funcs).All() {
		sum += e.Extra()
	}
	if sum != 28 {
		t.Errorf("functions: %d", sum)
	}
	floats, _ := bank.New(32, 4, math.NaN()) // not equal to itself
	if n := frame.Write(floats, p, 0); n != 0 {
		t.Errorf("floats: %d", n)
	}
	if n := frame.Write(floats, p, 15); n != 4 {
		t.Errorf("floats: %d", n)
	}
	if e, _ := floats.Get(33); !math.IsNaN(e.Extra) {
		t.Errorf("floats: %v", e)
	}
	empty, _ := bank.New(32, 0, struct{}{})
	if n := frame.Write(empty, p, 15); n != 0 || frame.Read(empty, p) != 0 || bank.Count(frame.Only(empty, 32).All()) != 0 {
		t.Errorf("no interrupts: %d", n)
	}
}

// only returns what the interrupts of a copy should be.
func only(row []item, ids []int) []item {
	now := slices.Clone(row)
	for i, x := range now {
		if !slices.Contains(ids, x.id) {
			now[i].e.Line = api.Line{}
		}
	}
	return now
}

// keeps reports where Only differs from what it should return, or changes what it is given.
func keeps(t *testing.T, b *bank.Bank[int], ids ...int) {
	t.Helper()
	row, given := collect(b), slices.Clone(ids)
	some := frame.Only(b, ids...)
	if some == nil || some == b {
		t.Fatalf("Only(%v): no other bank", given)
	}
	if got, want := collect(some), only(row, given); !slices.Equal(got, want) {
		t.Errorf("Only(%v): %v, want %v", given, got, want)
	}
	if !slices.Equal(ids, given) || !slices.Equal(collect(b), row) {
		t.Errorf("Only(%v) has changed what it was given", given)
	}
}

func TestOnly(t *testing.T) { // P11.3
	for _, x := range []struct{ first, n int }{{0, 32}, {32, 64}, {40, 1}, {40, 0}, {16380, 4}} {
		b := mixed(t, x.first, x.n, x.n)
		for _, ids := range [][]int{
			nil, {}, {0}, {31}, {32}, {33, 32}, {32, 32, 95, 32}, {40}, {41}, {40, 40}, {-40}, {-1, 96}, {39, 40, 41, 5, 16383}, {16379, 16380, 16384},
			{math.MinInt, math.MaxInt}, {math.MinInt + 40, 50, math.MaxInt - 40}, ends(),
		} {
			keeps(t, b, ids...)
		}
		var all []int
		for id := x.first - 2; id < x.first+x.n+2; id++ {
			keeps(t, b, id)
			all = append(all, id)
		}
		keeps(t, b, all...)
		slices.Reverse(all)
		keeps(t, b, all...)
		if got := collect(frame.Only(b, all...)); !slices.Equal(got, collect(b)) {
			t.Errorf("Only of all: %v", got)
		}
	}
}

func TestOnlyWithManyNumbers(t *testing.T) { // P11.3
	b := mixed(t, 0, 16384, 11)
	var odd []int
	for id := range 1 << 17 {
		odd = append(odd, 2*id+1)
	}
	for id, e := range frame.Only(b, odd...).All() {
		want, _ := b.Get(id)
		if id%2 == 0 {
			want.Line = api.Line{}
		}
		if e != want {
			t.Fatalf("interrupt %d: %v, want %v", id, e, want)
		}
	}
}

func TestOnlyIsACopy(t *testing.T) { // P11.3, W6
	b := mixed(t, 32, 8, 12)
	ids := []int{33, 35, 37}
	some := frame.Only(b, ids...)
	row, kept := collect(b), collect(some)
	ids[0], ids[1] = 34, 36
	p := api.Place{Reg: api.Ipriority, First: 32, Count: 8}
	frame.Write(b, p, 0x5858585858585858)
	b.Do(33, api.Activate)
	b.Put(34, bank.Entry[int]{Extra: 99})
	if got := collect(some); !slices.Equal(got, kept) {
		t.Errorf("the copy has changed with its original: %v, want %v", got, kept)
	}
	now := collect(b)
	some.Reset()
	some.Put(35, bank.Entry[int]{Line: api.Line{Enabled: true}, Extra: 77})
	frame.Write(some, p, 1<<64-1)
	if got := collect(b); !slices.Equal(got, now) || slices.Equal(now, row) {
		t.Errorf("the original has changed with its copy: %v, want %v", got, now)
	}
}

func TestReadOfOnlySome(t *testing.T) { // P11.1, P11.3: what a frame tells of them alone
	b := mixed(t, 32, 64, 13)
	for _, reg := range described() {
		for _, ids := range [][]int{{}, {32}, {33, 35, 39}, {50, 95, 96}} {
			p := api.Place{Reg: reg, First: 32, Count: 64}
			mask := uint64(0)
			for k := range 64 / wide(reg) {
				if slices.Contains(ids, 32+k) {
					mask |= (1<<wide(reg) - 1) << (k * wide(reg))
				}
			}
			if got, want := frame.Read(frame.Only(b, ids...), p), frame.Read(b, p)&mask; got != want {
				t.Errorf("Read of %v, only %v: %#x, want %#x", p, ids, got, want)
			}
		}
	}
}
