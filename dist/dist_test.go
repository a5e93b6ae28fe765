package dist_test

import (
	"fmt"
	"iter"
	"math"
	"slices"
	"testing"

	"crier/api"
	"crier/dist"
	"crier/regs"
)

// ends lists numbers on both sides of those that the chapter names, and at both ends of int.
func ends() []int {
	return []int{
		math.MinInt, math.MinInt + 1, math.MinInt + 32, math.MinInt + 40, -1 << 32, -1<<32 + 1, -1<<32 + 40, -65536, -64, -33, -32, -16, -8, -2, -1, 0, 1, 2,
		3, 4, 5, 6, 7, 8, 9, 15, 16, 17, 31, 32, 33, 40, 63, 64, 65, 71, 72, 94, 95, 96, 97, 127, 128, 255, 256, 257, 1019, 1020, 1023, 8192, 16383, 16384,
		1 << 31, 1 << 32, 1<<32 + 1, 1<<32 + 40, 1 << 62, math.MaxInt - 32, math.MaxInt - 1, math.MaxInt,
	}
}

// acts lists the acts, and numbers that are none.
func acts() []api.Act {
	return []api.Act{
		api.Rise, api.Fall, api.Set, api.Clear, api.Ack, api.End, api.Activate, api.ToEdge, api.ToLevel, 0, -1, api.ToLevel + 1, 1<<32 + api.Rise,
		math.MinInt, math.MaxInt,
	}
}

// values lists numbers of 64 bits.
func values() []uint64 {
	some := []uint64{
		0, 1, 2, 3, 4, 5, 6, 7, 0xf8, 0xff, 0x100, 0x101, 0x0a000000, 0x5555555555555555, 0xaaaaaaaaaaaaaaaa, 1 << 30, 1 << 31, 1<<31 + 1, 1 << 32,
		1<<32 + 2, 1 << 33, 1 << 63, 1<<63 - 1, 1<<64 - 3, 1<<64 - 2, 1<<64 - 1,
	}
	for bit := range 64 {
		some = append(some, 1<<bit)
	}
	return some
}

// roll returns a source of numbers below a given one, which depend on seed alone.
func roll(seed int) func(n int) int {
	x := uint64(seed)*2 + 1
	return func(n int) int {
		x = x*6364136223846793005 + 1442695040888963407
		return int(x >> 33 % uint64(n))
	}
}

// word returns a number of 64 bits.
func word(next func(n int) int) uint64 {
	return uint64(next(1<<31))<<33 | uint64(next(1<<31))<<2 | uint64(next(4))
}

// state returns the n-th of the 16 states of an interrupt.
func state(n int) api.Irq {
	return api.Irq{Edge: n&1 != 0, Line: n&2 != 0, Latch: n&4 != 0, Active: n&8 != 0}
}

// made returns a distributor, which the numbers must allow, and its model.
func made(t *testing.T, cores, spis int) (*dist.Dist, *model) {
	t.Helper()
	d, err := dist.New(cores, spis)
	if d == nil || err != api.OK {
		t.Fatalf("New(%d, %d): %v, %v", cores, spis, d, err)
	}
	return d, newModel(cores, spis)
}

// mixed returns a distributor in which much has been done, and its model.
func mixed(t *testing.T, cores, spis, seed int) (*dist.Dist, *model) {
	t.Helper()
	d, m := made(t, cores, spis)
	next := roll(seed)
	for off := 0x80; off < 0xd00; off += 4 {
		v := word(next)
		d.Write(off, 4, v)
		m.write(off, 4, v)
		if off < 0xc00 {
			for k := range cores {
				p, _ := regs.Redist(0x10000+off, 4)
				v := word(next)
				d.WriteOwn(k, p, v)
				m.writeOwn(k, p, v)
			}
		}
	}
	for id := 0; id < 32+spis; id++ {
		k, s := next(cores), state(next(16))
		d.Put(k, id, s)
		m.put(k, id, s)
		if id > 31 {
			v := uint64(next(cores + 1))
			if next(4) == 0 {
				v = 1 << 31
			}
			d.Write(0x6000+8*id, 8, v)
			m.write(0x6000+8*id, 8, v)
		}
	}
	d.Write(0, 4, 3)
	m.write(0, 4, 3)
	same(t, "mixed", d, m)
	return d, m
}

// P13.1: what New returns.
func TestNew(t *testing.T) {
	for cores := 1; cores <= 8; cores++ {
		for spis := 0; spis <= 64; spis++ {
			d, m := made(t, cores, spis)
			same(t, fmt.Sprint("New ", cores, " ", spis), d, m)
		}
	}
	d, _ := made(t, 1, 1)
	for id := range 33 {
		if l, _ := d.Get(0, id); l != (api.Line{Irq: api.Irq{Edge: id < 16}}) {
			t.Errorf("Get(0, %d): %v", id, l)
		}
	}
}

// P13.1: numbers that New does not take.
func TestNewErrors(t *testing.T) {
	for _, cores := range ends() {
		for _, spis := range ends() {
			d, err := dist.New(cores, spis)
			right := 1 <= cores && cores <= 8 && 0 <= spis && spis <= 64
			if right != (err == api.OK) || right != (d != nil) || !right && err != api.ErrArg {
				t.Errorf("New(%d, %d): %v, %v", cores, spis, d, err)
			}
		}
	}
}

// P13.2, W4: the errors of regs, with which nothing is read or written.
func TestFrameErrors(t *testing.T) {
	d, m := mixed(t, 2, 40, 1)
	offs := append(ends(), 2, 10, 0x81, 0x82, 0x7c, 0x404, 0x6104, 0x6100, 0xfffc, 0xfff8, 0x10000, 0x10004, math.MaxInt-7, math.MinInt+8)
	for _, off := range offs {
		for _, width := range ends() {
			_, want := regs.Dist(off, width)
			v, err := d.Read(off, width)
			if err != want || err != api.OK && v != 0 {
				t.Errorf("Read(%d, %d): %d, %v, not %v", off, width, v, err, want)
			}
			if want == api.OK {
				continue
			}
			if err := d.Write(off, width, math.MaxUint64); err != want {
				t.Errorf("Write(%d, %d): %v, not %v", off, width, err, want)
			}
		}
	}
	same(t, "after errors", d, m)
}

// P13.2: which groups are enabled.
func TestCtlr(t *testing.T) {
	d, m := mixed(t, 2, 40, 2)
	for _, v := range values() {
		if err := d.Write(0, 4, v); err != api.OK {
			t.Errorf("Write(0, 4, %#x): %v", v, err)
		}
		m.write(0, 4, v)
		if got, err := d.Read(0, 4); got != 80+v%4 || err != api.OK {
			t.Errorf("after %#x: Read(0, 4): %d, %v", v, got, err)
		}
		same(t, "Ctlr", d, m)
	}
}

// P13.2: how many interrupts and processors there are, which cannot be written.
func TestTyper(t *testing.T) {
	for _, x := range []struct {
		cores, spis int
		want        uint64
	}{
		{1, 0, 131072}, {1, 1, 131073}, {1, 31, 131073}, {1, 32, 131073}, {1, 33, 131074}, {1, 64, 131074}, {2, 0, 131104}, {2, 40, 131106},
		{8, 63, 131298}, {8, 64, 131298},
	} {
		d, m := made(t, x.cores, x.spis)
		for _, v := range values() {
			if err := d.Write(4, 4, v); err != api.OK {
				t.Errorf("Write(4, 4, %#x): %v", v, err)
			}
			if got, err := d.Read(4, 4); got != x.want || err != api.OK {
				t.Errorf("%d, %d: Read(4, 4): %d, %v", x.cores, x.spis, got, err)
			}
		}
		same(t, "Typer", d, m)
	}
}

// P13.2, P13.6: the routes of all interrupts that have a register, whether they exist or not.
func TestRoutes(t *testing.T) {
	for _, spis := range []int{0, 1, 40, 64} {
		d, m := mixed(t, 3, spis, spis)
		for id := 32; id < 1020; id++ {
			off, _, is := regs.At(api.Irouter, id)
			if !is {
				t.Fatal("no register for", id)
			}
			for _, v := range []uint64{1, 2, 3, 7, 8, 255, 256, 1 << 30, 1 << 31, 1<<31 + 2, 1<<32 + 1, 1<<64 - 1, 0x123456789abcdef0, 1<<64 - 1<<31, 0} {
				if err := d.Write(off, 8, v); err != api.OK {
					t.Errorf("Write(%#x, 8, %#x): %v", off, v, err)
				}
				want, target := v&0x800000ff, -1
				switch {
				case id >= 32+spis:
					want = 0
				case want >= 1<<31:
					target = 0
				case want < 3:
					target = int(want)
				}
				if got, err := d.Read(off, 8); got != want || err != api.OK {
					t.Errorf("after %#x: the route of %d: %#x, %v, not %#x", v, id, got, err, want)
				}
				if k := d.Target(id); k != target {
					t.Errorf("after %#x: Target(%d): %d, not %d", v, id, k, target)
				}
			}
			m.write(off, 8, 0)
		}
		same(t, "routes", d, m)
	}
}

// P13.2: each place of the frame.
func TestFrame(t *testing.T) {
	for seed, spis := range []int{0, 1, 32, 40, 64} {
		d, m := mixed(t, 2, spis, seed+3)
		next := roll(seed)
		for off := 0; off < 0x10000; off += 4 {
			for _, width := range []int{4, 8} {
				v := word(next)
				if off%width != 0 {
					continue
				}
				if err, want := d.Write(off, width, v), m.write(off, width, v); err != want {
					t.Errorf("Write(%#x, %d, %#x): %v, not %v", off, width, v, err, want)
				}
				got, err := d.Read(off, width)
				if want, e := m.read(off, width); got != want || err != e {
					t.Errorf("Read(%#x, %d): %#x, %v, not %#x, %v", off, width, got, err, want, e)
				}
			}
			if off < 0xd00 {
				same(t, fmt.Sprintf("after %#x", off), d, m)
			}
		}
		same(t, "after all", d, m)
	}
}

// P13.2, P13.3: the distributor's frame tells of no processor's own interrupts, and a processor's of no shared ones.
func TestApart(t *testing.T) {
	d, m := made(t, 2, 64)
	for off := 0x80; off < 0xd00; off += 4 {
		p, _ := regs.Dist(off, 4)
		if p.Count == 0 || p.First > 31 {
			continue
		}
		d.Write(off, 4, 1<<32-1)
		if v, err := d.Read(off, 4); v != 0 || err != api.OK {
			t.Errorf("Read(%#x, 4): %#x, %v", off, v, err)
		}
	}
	same(t, "the frame, up to 31", d, m)
	for reg := api.Igroup; reg <= api.Icfg; reg++ {
		p := api.Place{Reg: reg, First: 32, Count: 32}
		d.WriteOwn(0, p, math.MaxUint64)
		if v, err := d.ReadOwn(1, p); v != 0 || err != api.OK {
			t.Errorf("ReadOwn(1, %v): %#x, %v", p, v, err)
		}
	}
	same(t, "own ones, from 32 on", d, m)
}

// P13.3: which processors sleep.
func TestWaker(t *testing.T) {
	d, m := mixed(t, 3, 40, 4)
	for i, v := range values() {
		k := i % 3
		p := api.Place{Reg: api.Waker, First: ends()[i%len(ends())], Count: ends()[i*7%len(ends())]}
		if err := d.WriteOwn(k, p, v); err != api.OK {
			t.Errorf("WriteOwn(%d, %v, %#x): %v", k, p, v, err)
		}
		m.sleep[k] = v&2 != 0
		want := uint64(0)
		if v&2 != 0 {
			want = 6
		}
		if got, err := d.ReadOwn(k, p); got != want || err != api.OK || d.Asleep(k) != (v&2 != 0) {
			t.Errorf("after %#x: ReadOwn(%d, %v): %d, %v; asleep: %v", v, k, p, got, err, d.Asleep(k))
		}
		same(t, "Waker", d, m)
	}
}

// P13.3: each place of a processor's frames, and places that no frame has.
func TestOwn(t *testing.T) {
	d, m := mixed(t, 3, 40, 5)
	next := roll(5)
	var places []api.Place
	for off := 0; off < api.RedistSize; off += 4 {
		for _, width := range []int{4, 8} {
			if p, err := regs.Redist(off, width); err == api.OK && p != (api.Place{}) {
				places = append(places, p)
			}
		}
	}
	for reg := api.NoReg; reg <= api.Creadr+1; reg++ {
		for _, first := range ends() {
			places = append(places, api.Place{Reg: reg, First: first, Count: next(65)})
		}
	}
	for _, reg := range ends() {
		places = append(places, api.Place{Reg: api.Reg(reg), First: 0, Count: 32})
	}
	for i, p := range places {
		k, v := next(3), word(next)
		if err, want := d.WriteOwn(k, p, v), m.writeOwn(k, p, v); err != want {
			t.Errorf("WriteOwn(%d, %v, %#x): %v, not %v", k, p, v, err, want)
		}
		got, err := d.ReadOwn(k, p)
		if want, e := m.readOwn(k, p); got != want || err != e {
			t.Errorf("ReadOwn(%d, %v): %#x, %v, not %#x, %v", k, p, got, err, want, e)
		}
		if i%8 == 0 {
			same(t, fmt.Sprint("after ", p), d, m)
		}
	}
	same(t, "after all", d, m)
}

// P13.3, W1: places with as many interrupts as there may be numbers.
func TestOwnLong(t *testing.T) {
	d, _ := mixed(t, 2, 40, 6)
	for _, reg := range ends() {
		for _, count := range []int{65, 16384, 16385, math.MaxInt, math.MinInt} {
			p := api.Place{Reg: api.Reg(reg), Count: count}
			d.WriteOwn(0, p, 1<<64-1)
			d.ReadOwn(0, p)
		}
	}
	if d.Cores() != 2 {
		t.Error(d.Cores())
	}
}

// P13.3 to P13.6, W3, W4: processors and interrupts that do not exist, and which of the two comes first.
func TestNumbers(t *testing.T) {
	d, m := mixed(t, 3, 40, 7)
	for _, k := range ends() {
		want := api.OK
		if k < 0 || k > 2 {
			want = api.ErrCore
		}
		for _, reg := range []api.Reg{api.Waker, api.Isenable, api.Ctlr, api.NoReg} {
			p := api.Place{Reg: reg, Count: 32}
			if v, err := d.ReadOwn(k, p); err != want || err != api.OK && v != 0 {
				t.Errorf("ReadOwn(%d, %v): %d, %v", k, p, v, err)
			}
			if err := d.WriteOwn(k, p, 0); err != want {
				t.Errorf("WriteOwn(%d, %v): %v", k, p, err)
			}
		}
		if n, err := d.Call(k, 0, 0); n != 0 || err != want {
			t.Errorf("Call(%d, 0, 0): %d, %v", k, n, err)
		}
		if want != api.OK && (!d.Asleep(k) || d.Best(k) != (api.Candidate{}) || collect(d.Seen(k)) != nil || collect(d.Ready(k)) != nil) {
			t.Errorf("processor %d exists", k)
		}
		for _, id := range ends() {
			numbers(t, d, k, id)
		}
	}
	same(t, "after errors", d, m)
}

// numbers holds the errors of all calls that concern one interrupt against what they should be; nothing is changed.
func numbers(t *testing.T, d *dist.Dist, k, id int) {
	t.Helper()
	want := api.OK
	if id < 0 || id > 71 {
		want = api.ErrLine
	}
	if k < 0 || k > 2 {
		want = api.ErrCore
	}
	l, err := d.Get(k, id)
	if err != want || err != api.OK && l != (api.Line{}) {
		t.Errorf("Get(%d, %d): %v, %v, not %v", k, id, l, err, want)
	}
	if err := d.Put(k, id, l.Irq); err != want {
		t.Errorf("Put(%d, %d): %v, not %v", k, id, err, want)
	}
	for _, a := range acts() {
		if err := d.Do(k, id, a); err != want {
			t.Errorf("Do(%d, %d, %d): %v, not %v", k, id, a, err, want)
		}
	}
	if id < 16 {
		want = api.ErrLine
	}
	for _, high := range []bool{true, false} {
		if err := d.Wire(k, id, high); err != want {
			t.Errorf("Wire(%d, %d, %v): %v, not %v", k, id, high, err, want)
		}
	}
	d.Put(k, id, l.Irq)
}

// P13.4: single interrupts, in each state.
func TestSingle(t *testing.T) {
	d, m := mixed(t, 2, 40, 8)
	for id := range 72 {
		for n := range 16 {
			for _, a := range acts() {
				for k := range 2 {
					if err := d.Put(k, id, state(n)); err != api.OK {
						t.Errorf("Put(%d, %d): %v", k, id, err)
					}
					m.put(k, id, state(n))
				}
				d.Do(n%2, id, a)
				m.do(n%2, id, a)
				for k := range 2 {
					l, _ := d.Get(k, id)
					if want, _ := m.get(k, id); l != want {
						t.Errorf("Do(%d, %d, %d) in state %d: %v, not %v", n%2, id, a, n, l, want)
					}
				}
			}
			d.Wire(n/2%2, id, n%2 == 0)
			m.wire(n/2%2, id, n%2 == 0)
		}
		same(t, fmt.Sprint("after ", id), d, m)
	}
}

// P13.4: shared interrupts are the same for all processors, wherever they go, and own ones are not.
func TestSame(t *testing.T) {
	d, _ := made(t, 2, 40)
	d.Write(0x6140, 8, 1)
	if err := d.Wire(0, 40, true); err != api.OK {
		t.Error(err)
	}
	d.Wire(0, 17, true)
	high := api.Line{Irq: api.Irq{Line: true}}
	for _, x := range []struct {
		k, id int
		want  api.Line
	}{{0, 40, high}, {1, 40, high}, {0, 17, high}, {1, 17, api.Line{}}} {
		if l, err := d.Get(x.k, x.id); l != x.want || err != api.OK {
			t.Errorf("Get(%d, %d): %v, %v", x.k, x.id, l, err)
		}
	}
	d.Wire(1, 40, false)
	if l, _ := d.Get(0, 40); l.Line {
		t.Error("the line is still high")
	}
}

// P13.5: calls of all kinds, of processors whose interrupts are in all groups.
func TestCall(t *testing.T) {
	for _, cores := range []int{1, 2, 5, 8} {
		d, m := mixed(t, cores, 0, cores)
		next := roll(cores)
		p := api.Place{Reg: api.Igroup, Count: 32}
		for i := range 600 {
			k, v := next(cores), word(next)
			d.WriteOwn(k, p, v)
			m.writeOwn(k, p, v)
			from, group := next(cores), next(2)
			v = uint64(next(1<<cores) + next(2)<<15 + next(16)<<24 + next(4)/3<<40 + next(8)/7<<(16+next(48)))
			n, err := d.Call(from, group, v)
			if want, e := m.call(from, group, v); n != want || err != e {
				t.Errorf("Call(%d, %d, %#x): %d, %v, not %d, %v", from, group, v, n, err, want, e)
			}
			d.Put(k, i%16, api.Irq{Edge: true})
			m.put(k, i%16, api.Irq{Edge: true})
		}
		same(t, "calls", d, m)
	}
}

// P13.5: calls, written out.
func TestCallRows(t *testing.T) {
	for _, x := range []struct {
		from, group int
		v           uint64
		whom        []int
	}{
		{0, 0, 0x03000002, []int{1}}, {1, 0, 0x03000002, []int{1}}, {0, 0, 0x0300ffff, []int{0, 1}}, {0, 1, 0x0300ffff, []int{2, 3}},
		{3, 0, 1<<40 + 0x03000000, []int{0, 1}}, {0, 0, 1<<40 + 0x03000001, []int{1}}, {2, 1, 1<<40 + 0x03010000, []int{3}},
		{0, 1, 0x0300fff0, nil}, {0, 1, 0x03000000, nil}, {0, 1, 0x0301ffff, nil}, {0, 2, 0x0300ffff, nil}, {0, -1, 0x0300ffff, nil},
		{0, math.MinInt, 0x0300ffff, nil}, {0, math.MaxInt, 0x0300ffff, nil}, {0, 1 << 32, 0x0300ffff, nil}, {0, 1<<32 + 1, 0x0300ffff, nil},
		{0, 0, 0xf300ffff, []int{0, 1}},
	} {
		d, m := made(t, 4, 8)
		for k := range 4 {
			// Interrupt 3 alone is in group 1, for the processors 2 and 3.
			p := api.Place{Reg: api.Igroup, Count: 32}
			d.WriteOwn(k, p, uint64(k/2*8))
			m.writeOwn(k, p, uint64(k/2*8))
		}
		d.WriteOwn(1, api.Place{Reg: api.Waker}, 2)
		m.sleep[1] = true
		for range 2 { // one that is pending already counts again
			if n, err := d.Call(x.from, x.group, x.v); n != len(x.whom) || err != api.OK {
				t.Errorf("Call(%d, %d, %#x): %d, %v", x.from, x.group, x.v, n, err)
			}
		}
		for _, k := range x.whom {
			m.own[k][3].Latch = true
		}
		same(t, "a call", d, m)
	}
}

// P13.6: the targets of routes to any processor, and to processors that sleep or do not exist.
func TestTarget(t *testing.T) {
	for cores := 1; cores <= 8; cores++ {
		d, _ := made(t, cores, 16)
		for k := range 8 {
			d.Write(0x6100+8*k, 8, uint64(k))
			d.Write(0x6140+8*k, 8, 1<<31+uint64(k))
		}
		for sleep := range 1 << cores {
			first := -1
			for k := cores - 1; k >= 0; k-- {
				d.WriteOwn(k, api.Place{Reg: api.Waker}, uint64(sleep>>k&1*2))
				if sleep>>k&1 == 0 {
					first = k
				}
			}
			for k := range 8 {
				want := k
				if k >= cores {
					want = -1
				}
				if d.Target(32+k) != want || d.Target(40+k) != first {
					t.Errorf("%d of %d sleep: Target: %d, %d, not %d, %d", sleep, cores, d.Target(32+k), d.Target(40+k), want, first)
				}
			}
		}
		for _, id := range ends() {
			if k := d.Target(id); k != -1 && (id < 32 || id > 47) {
				t.Errorf("Target(%d): %d", id, k)
			}
		}
	}
}

// P13.6: each condition under which an interrupt is ready.
func TestReady(t *testing.T) {
	for n := range 1 << 9 {
		bit := func(k int) int { return n >> k & 1 }
		for _, id := range []int{0, 15, 16, 31, 32, 39} {
			d, _ := made(t, 2, 8)
			s := state(n & 15)
			group, enabled, on, sleep := bit(4), bit(5), n>>6&3, bit(8)
			for k, p := range []api.Place{{Reg: api.Igroup, First: id / 32 * 32, Count: 32}, {Reg: api.Isenable, First: id / 32 * 32, Count: 32}} {
				v := uint64([]int{group, enabled}[k]) << (id % 32)
				off, width, _ := regs.At(p.Reg, id)
				d.Write(off, width, v)
				d.WriteOwn(0, p, v)
			}
			d.Put(0, id, s)
			d.Write(0, 4, uint64(on))
			d.WriteOwn(0, api.Place{Reg: api.Waker}, uint64(sleep*2))
			pending := s.Latch || s.Line && !s.Edge
			want := api.Candidate{}
			if pending && !s.Active && enabled == 1 && on>>group&1 == 1 && sleep == 0 {
				want = api.Candidate{ID: id, Group: group, Is: true}
			}
			if c := d.Best(0); c != want || len(collect(d.Ready(0))) != map[bool]int{true: 1}[want.Is] {
				t.Errorf("%d in state %#x: %v, %v, not %v", id, n, c, collect(d.Ready(0)), want)
			}
			if d.Best(1) != (api.Candidate{}) {
				t.Errorf("%d in state %#x: processor 1 has it", id, n)
			}
			if len(collect(d.Seen(0))) != 40 || len(collect(d.Seen(1))) != 32 {
				t.Errorf("%d in state %#x: Seen depends on it", id, n)
			}
		}
	}
}

// P13.6: the best one has the smallest priority, and of those the smallest number.
func TestBest(t *testing.T) {
	for _, x := range []struct {
		priorities map[int]uint64
		want       api.Candidate
	}{
		{nil, api.Candidate{}},
		{map[int]uint64{40: 255}, api.Candidate{ID: 40, Priority: 248, Group: 1, Is: true}},
		{map[int]uint64{40: 160, 33: 168}, api.Candidate{ID: 40, Priority: 160, Group: 1, Is: true}},
		{map[int]uint64{40: 160, 33: 160, 63: 160}, api.Candidate{ID: 33, Priority: 160, Group: 1, Is: true}},
		{map[int]uint64{40: 167, 33: 165}, api.Candidate{ID: 33, Priority: 160, Group: 1, Is: true}},
		{map[int]uint64{3: 8, 40: 0}, api.Candidate{ID: 40, Group: 1, Is: true}},
		{map[int]uint64{3: 8, 40: 8}, api.Candidate{ID: 3, Priority: 8, Group: 1, Is: true}},
		{map[int]uint64{31: 8, 32: 8}, api.Candidate{ID: 31, Priority: 8, Group: 1, Is: true}},
	} {
		d, _ := made(t, 2, 32)
		d.Write(0, 4, 2)
		for id, priority := range x.priorities {
			for _, p := range []api.Place{{Reg: api.Igroup, First: id, Count: 1}, {Reg: api.Isenable, First: id, Count: 1}, {Reg: api.Ipriority, First: id, Count: 1}} {
				off, width, _ := regs.At(p.Reg, id)
				v := uint64(1)
				if p.Reg == api.Ipriority {
					v = priority
				}
				d.WriteOwn(0, p, v)
				place, _ := regs.Dist(off, width)
				old, _ := d.Read(off, width)
				d.Write(off, width, regs.With(old, place, id-place.First, v))
			}
			d.Do(0, id, api.Set)
		}
		if c := d.Best(0); c != x.want {
			t.Errorf("%v: Best(0): %v, not %v", x.priorities, c, x.want)
		}
	}
}

// P13.6, W8: loops that are left early, repeated and nested.
func TestLoops(t *testing.T) {
	d, m := mixed(t, 2, 64, 9)
	for k := range 2 {
		for name, x := range map[string]struct {
			seq  iter.Seq2[int, api.Line]
			want []item
		}{"Seen": {d.Seen(k), m.seen(k)}, "Ready": {d.Ready(k), m.ready(k)}} {
			if len(x.want) < 3 || !slices.ContainsFunc(x.want, func(x item) bool { return x.id > 31 }) {
				t.Fatalf("%s(%d) yields too little to try: %v", name, k, x.want)
			}
			for n := 1; n <= len(x.want); n++ {
				var row []item
				over := false
				x.seq(func(id int, l api.Line) bool {
					if over {
						t.Fatalf("%s(%d) yields %d after the loop is left", name, k, id)
					}
					row = append(row, item{id, l})
					over = len(row) == n
					return !over
				})
				if !slices.Equal(row, x.want[:n]) {
					t.Errorf("%s(%d), the first %d: %v", name, k, n, row)
				}
			}
			times := 0
			for range x.seq {
				if row := collect(x.seq); !slices.Equal(row, x.want) {
					t.Errorf("%s(%d) in a loop over itself: %v", name, k, row)
				}
				times++
			}
			if times != len(x.want) {
				t.Errorf("%s(%d), outer loop: %d times", name, k, times)
			}
		}
	}
	same(t, "after loops", d, m)
}

// P13.6, W8: what is yielded is what exists during the loop, not when the iterator was asked for.
func TestLate(t *testing.T) {
	d, m := made(t, 2, 40)
	seen, ready := d.Seen(1), d.Ready(1)
	change := func(what string, f func()) {
		f()
		if row := collect(seen); !slices.Equal(row, m.seen(1)) {
			t.Errorf("%s: Seen(1): %v, not %v", what, row, m.seen(1))
		}
		if row := collect(ready); !slices.Equal(row, m.ready(1)) {
			t.Errorf("%s: Ready(1): %v, not %v", what, row, m.ready(1))
		}
	}
	change("groups", func() { d.Write(0, 4, 1); m.write(0, 4, 1) })
	change("an enable", func() { d.Write(0x104, 4, 0x100); m.write(0x104, 4, 0x100) })
	change("a line", func() { d.Wire(0, 40, true); m.wire(0, 40, true) })
	change("a route", func() { d.Write(0x6140, 8, 1); m.write(0x6140, 8, 1) })
	if len(m.ready(1)) != 1 {
		t.Fatal(m.ready(1))
	}
	change("sleep", func() { d.WriteOwn(1, api.Place{Reg: api.Waker}, 2); m.sleep[1] = true })
	change("waking", func() { d.WriteOwn(1, api.Place{Reg: api.Waker}, 0); m.sleep[1] = false })
	change("any", func() { d.Write(0x6140, 8, 1<<31); m.write(0x6140, 8, 1<<31) })
	change("sleep of another", func() { d.WriteOwn(0, api.Place{Reg: api.Waker}, 2); m.sleep[0] = true })
}

// P13.6, W6: a copy and its original do not change one another.
func TestCopy(t *testing.T) {
	for seed := range 4 {
		d, m := mixed(t, 3, 40, seed)
		d.WriteOwn(1, api.Place{Reg: api.Waker}, 2)
		m.sleep[1] = true
		c, cm := d.Copy(), m.clone()
		same(t, "the copy", c, cm)
		walk(t, roll(seed+100), 300, d, m)
		same(t, "the copy, the original being changed", c, cm)
		walk(t, roll(seed+200), 300, c, cm)
		same(t, "the original, the copy being changed", d, m)
		cc := c.Copy()
		walk(t, roll(seed+300), 300, c, cm.clone())
		same(t, "the copy's copy", cc, cm)
	}
}

// P13.1 to P13.6, W2: long rows of calls of all kinds.
func TestWalks(t *testing.T) {
	for seed := range 24 {
		d, m := made(t, seed%8+1, seed*13%65)
		walk(t, roll(seed), 400, d, m)
	}
}

// walk makes some calls, and holds each of them and now and then all that can be asked against a model.
func walk(t *testing.T, next func(n int) int, steps int, d *dist.Dist, m *model) {
	t.Helper()
	for i := range steps {
		step(t, next, d, m)
		if i%8 == 0 {
			same(t, fmt.Sprint("step ", i), d, m)
		}
	}
	same(t, "the end", d, m)
}

// step makes one call, mostly with numbers that exist.
func step(t *testing.T, next func(n int) int, d *dist.Dist, m *model) {
	t.Helper()
	k, id, v := next(len(m.sleep)+1), next(34+len(m.shared)), word(next)
	var err, want api.Errno
	switch next(9) {
	case 0:
		v &= 3
		err, want = d.Write(0, 4, v), m.write(0, 4, v)
	case 1:
		off := 0x80 + 4*next((0xd00-0x80)/4)
		err, want = d.Write(off, 4, v), m.write(off, 4, v)
	case 2:
		off := 0x6100 + 8*next(66)
		v = v & 7 << (v >> 8 & 1 * 29)
		err, want = d.Write(off, 8, v), m.write(off, 8, v)
	case 3:
		p := api.Place{Reg: api.Igroup + api.Reg(next(9)), First: 4 * next(8), Count: 4}
		err, want = d.WriteOwn(k, p, v), m.writeOwn(k, p, v)
	case 4:
		p := api.Place{Reg: api.Waker}
		err, want = d.WriteOwn(k, p, v&(v>>1)), m.writeOwn(k, p, v&(v>>1))
	case 5:
		err, want = d.Wire(k, id, v%2 == 0), m.wire(k, id, v%2 == 0)
	case 6:
		a := acts()[next(len(acts()))]
		err, want = d.Do(k, id, a), m.do(k, id, a)
	case 7:
		s := state(next(16))
		err, want = d.Put(k, id, s), m.put(k, id, s)
	case 8:
		v = v&0x0f00ffff | v>>60&1<<40
		var n, many int
		n, err = d.Call(k, id%3, v)
		many, want = m.call(k, id%3, v)
		if n != many {
			t.Fatalf("Call(%d, %d, %#x): %d, not %d", k, id%3, v, n, many)
		}
	}
	if err != want {
		t.Fatalf("an error: %v, not %v", err, want)
	}
}
