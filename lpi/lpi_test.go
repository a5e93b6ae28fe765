package lpi_test

import (
	"math"
	"slices"
	"testing"

	"crier/api"
	"crier/lpi"
	"crier/mem"
)

func TestExample(t *testing.T) { // P15.1 to P15.4
	b := make([]byte, 64)
	b[3], b[16] = 161, 8
	m := create(t, b)
	l, e := lpi.New(m, 16, win(0, 16), win(16, 2))
	if l == nil || e != api.OK {
		t.Fatal(l, e)
	}
	l.Enable(m)
	if !l.Has(m, 8195) {
		t.Error("8195 is not pending")
	}
	if c := l.Best(); c != (api.Candidate{ID: 8195, Priority: 160, Group: 1, Is: true}) {
		t.Errorf("Best: %v", c)
	}
	b[16] = 0
	keeps(t, m, b)
	if was, e := l.Set(m, 8195, false); !was || e != api.OK {
		t.Errorf("Set: %v, %d", was, e)
	}
	if c := l.Best(); c != (api.Candidate{}) {
		t.Errorf("Best of nothing: %v", c)
	}
	l.Set(m, 8200, true)
	l.Disable(m)
	b[17] = 1
	keeps(t, m, b)
}

func TestNew(t *testing.T) { // P15.1
	for _, many := range []int{1, 2, 7, 8, 9, 15, 16, 17, 255, 256, 257, 504, 505, 511, 512} {
		b := slices.Repeat([]byte{255}, 600)
		m := create(t, b)
		for _, room := range []int{0, 1, 7} {
			l, e := lpi.New(m, many, win(0, many+room), win(512, (many+7)/8+room))
			if l == nil || e != api.OK {
				t.Fatalf("%d: %v, %d", many, l, e)
			}
			holds(t, m, l, b, newModel(many, 0, 512))
		}
	}
}

func TestNewAtTheEndOfTheMemory(t *testing.T) { // P15.1
	for many, pend := range map[int]int{1: 1, 8: 1, 9: 2, 16: 2, 17: 3, 512: 64} {
		b := mixed(many+pend, many)
		m := create(t, b)
		l, w := build(t, m, many, pend, 0), newModel(many, pend, 0)
		holds(t, m, l, b, w)
		l.Enable(m)
		w.enable(b)
		holds(t, m, l, b, w)
		l, w = build(t, m, many, 0, many), newModel(many, 0, many)
		l.Enable(m)
		w.enable(b)
		holds(t, m, l, b, w)
	}
}

func TestNewWithWrongNumbers(t *testing.T) { // P15.1, W3, W4: ErrArg comes first
	m := create(t, make([]byte, 2000))
	for _, many := range []int{
		0, -1, -8, 513, 514, 520, 1024, 8192, 1 << 32, 1<<32 + 8, 1 << 62, math.MaxInt, math.MaxInt - 7, math.MinInt, math.MinInt + 7,
	} {
		for _, w := range []api.Window{win(0, 1000), win(0, 0), win(-1, 5), win(0, 2001), win(0, math.MaxInt)} {
			if l, e := lpi.New(m, many, w, w); l != nil || e != api.ErrArg {
				t.Errorf("New(%d, %v): %v, %d", many, w, l, e)
			}
		}
	}
}

func TestNewWithWrongTables(t *testing.T) { // P15.1, W3
	m := create(t, make([]byte, 600))
	for _, many := range []int{1, 8, 9, 16, 17, 505, 512} {
		pend := (many + 7) / 8
		good, bits := win(0, many), win(600-pend, pend)
		if l, e := lpi.New(m, many, good, bits); l == nil || e != api.OK {
			t.Fatalf("%d: %v, %d", many, l, e)
		}
		for _, size := range []int{many - 1, 0, -1, -many, math.MinInt} {
			wrong(t, m, many, win(0, size), bits)
		}
		for _, size := range []int{pend - 1, 0, -1, -pend, math.MinInt} {
			wrong(t, m, many, good, win(600-pend, size))
		}
		for _, w := range outside(many) {
			wrong(t, m, many, w, bits)
			wrong(t, m, many, good, w)
			wrong(t, m, many, w, w)
		}
	}
	empty, _ := mem.New(0)
	wrong(t, empty, 1, win(0, 0), win(0, 0))
	wrong(t, empty, 1, win(0, 1), win(0, 1))
}

// outside lists windows that a memory of 600 bytes does not hold, and all of which have bytes enough, but for the negative ones.
func outside(many int) []api.Window {
	return []api.Window{
		win(601-many, many), win(600, many), win(601, many), win(-1, many), win(-many, many), win(0, 601), win(1, 600), win(-600, 1200),
		win(0, -many), win(many, -many), win(0, math.MaxInt), win(1, math.MaxInt), win(math.MaxInt, math.MaxInt), win(math.MaxInt, many),
		win(math.MaxInt-many+1, many), win(math.MinInt, math.MaxInt), win(math.MinInt, many), win(math.MinInt, math.MinInt),
		win(math.MaxInt, math.MinInt), win(1<<62, 1<<62),
	}
}

func wrong(t *testing.T, m *mem.Mem, many int, prop, pend api.Window) {
	t.Helper()
	if l, e := lpi.New(m, many, prop, pend); l != nil || e != api.ErrUnmapped {
		t.Errorf("New(%d, %v, %v): %v, %d", many, prop, pend, l, e)
	}
}

func TestNewChangesNothing(t *testing.T) { // P15.1, W2, W6
	b := mixed(80, 1)
	m := create(t, b)
	l, o := build(t, m, 16, 0, 16), build(t, m, 16, 0, 16)
	keeps(t, m, b)
	l.Enable(m)
	if o.On() || !l.On() {
		t.Errorf("On: %v, %v", l.On(), o.On())
	}
	o = build(t, m, 16, 32, 48)
	if in, p := o.Setup(8192); in || p != 0 {
		t.Errorf("Setup of a new one: %v, %d", in, p)
	}
}

func TestEnable(t *testing.T) { // P15.2
	for _, x := range []struct {
		many   int
		pend   [2]byte
		left   [2]byte
		wait   []int
		enable int
	}{
		{16, [2]byte{0, 0}, [2]byte{0, 0}, nil, 1},
		{16, [2]byte{8, 0}, [2]byte{0, 0}, []int{8195}, 1},
		{16, [2]byte{0x81, 0x81}, [2]byte{0, 0}, []int{8192, 8199, 8200, 8207}, 1},
		{16, [2]byte{0x81, 0x81}, [2]byte{0, 0}, []int{8192, 8199, 8200, 8207}, 2},
		{9, [2]byte{0x81, 0x81}, [2]byte{0, 0x80}, []int{8192, 8199, 8200}, 1},
		{9, [2]byte{255, 255}, [2]byte{0, 254}, []int{8192, 8193, 8194, 8195, 8196, 8197, 8198, 8199, 8200}, 3},
		{8, [2]byte{255, 255}, [2]byte{0, 255}, []int{8192, 8193, 8194, 8195, 8196, 8197, 8198, 8199}, 1},
		{3, [2]byte{0xfd, 3}, [2]byte{0xf8, 3}, []int{8192, 8194}, 1},
		{1, [2]byte{255, 255}, [2]byte{254, 255}, []int{8192}, 1},
		{1, [2]byte{254, 255}, [2]byte{254, 255}, nil, 1},
	} {
		m := create(t, []byte{7, x.pend[0], x.pend[1], 7, 0, 0, 0, 0, 0, 0, 0, 0, 0, 0, 0, 0, 0, 0, 0, 0})
		l, e := lpi.New(m, x.many, win(4, 16), win(1, 2))
		if e != api.OK {
			t.Fatal(e)
		}
		if got := slices.Collect(l.Waiting(m)); !slices.Equal(got, x.wait) {
			t.Errorf("%v: Waiting while off: %v", x, got)
		}
		for range x.enable {
			l.Enable(m)
		}
		if got := slices.Collect(l.Waiting(m)); !slices.Equal(got, x.wait) || !l.On() {
			t.Errorf("%v: Waiting while on: %v", x, got)
		}
		keeps(t, m, []byte{7, x.left[0], x.left[1], 7, 0, 0, 0, 0, 0, 0, 0, 0, 0, 0, 0, 0, 0, 0, 0, 0})
	}
}

func TestEnableTwiceHasNoEffect(t *testing.T) { // P15.2
	m := create(t, make([]byte, 32))
	l := build(t, m, 9, 0, 16)
	l.Enable(m)
	m.Put(win(0, 3), 161, 161, 161)
	m.Put(win(16, 2), 255, 255)
	l.Enable(m)
	if in, p := l.Setup(8192); in || p != 0 {
		t.Errorf("Setup: %v, %d", in, p)
	}
	if got := slices.Collect(l.Waiting(m)); len(got) != 0 {
		t.Errorf("Waiting: %v", got)
	}
	if v, _ := m.Read(win(16, 2), 0, 1); v != 255 {
		t.Errorf("byte 16: %d", v)
	}
}

func TestDisable(t *testing.T) { // P15.2
	for _, x := range []struct {
		many    int
		set     []int
		was, is [2]byte // the table ahead of Disable, written while it is on, and after it
	}{
		{16, nil, [2]byte{0, 0}, [2]byte{0, 0}},
		{16, nil, [2]byte{5, 255}, [2]byte{5, 255}},
		{16, []int{8200}, [2]byte{0, 0}, [2]byte{0, 1}},
		{16, []int{8192, 8199, 8207}, [2]byte{2, 0x40}, [2]byte{0x83, 0xc0}},
		{9, []int{8192, 8200}, [2]byte{0, 0xf0}, [2]byte{1, 0xf1}},
		{9, []int{8192, 8200}, [2]byte{255, 255}, [2]byte{255, 255}},
		{1, []int{8192}, [2]byte{0xfe, 0x12}, [2]byte{0xff, 0x12}},
	} {
		m := create(t, make([]byte, 20))
		l := build(t, m, x.many, 0, 17)
		l.Enable(m)
		for _, id := range x.set {
			l.Set(m, id, true)
		}
		m.Put(win(16, 4), 7, x.was[0], x.was[1], 7)
		l.Disable(m)
		want := make([]byte, 20)
		want[16], want[17], want[18], want[19] = 7, x.is[0], x.is[1], 7
		keeps(t, m, want)
		if l.On() || l.Best().Is {
			t.Errorf("%v: it is on", x)
		}
		l.Disable(m)
		keeps(t, m, want)
	}
}

func TestOffGoesByTheTable(t *testing.T) { // P15.2: also after it was on
	m := create(t, make([]byte, 20))
	l := build(t, m, 16, 0, 16)
	l.Enable(m)
	l.Set(m, 8193, true)
	l.Set(m, 8195, true)
	l.Disable(m)
	m.Put(win(16, 2), 8, 128)
	if got := slices.Collect(l.Waiting(m)); !slices.Equal(got, []int{8195, 8207}) || l.Has(m, 8193) || !l.Has(m, 8207) {
		t.Errorf("Waiting: %v", got)
	}
	l.Enable(m)
	if got := slices.Collect(l.Waiting(m)); !slices.Equal(got, []int{8195, 8207}) || l.Has(m, 8193) {
		t.Errorf("Waiting while on again: %v", got)
	}
	m.Put(win(16, 2), 255, 255)
	if got := slices.Collect(l.Waiting(m)); !slices.Equal(got, []int{8195, 8207}) || l.Has(m, 8193) {
		t.Errorf("Waiting while on, with bits: %v", got)
	}
}

func TestOtherBytesOfTheTables(t *testing.T) { // P15.1, P15.2: those that are not of its interrupts
	b := slices.Repeat([]byte{255}, 40)
	m := create(t, b)
	l, e := lpi.New(m, 5, win(3, 20), win(30, 8))
	if e != api.OK {
		t.Fatal(e)
	}
	w := newModel(5, 3, 30)
	l.Enable(m)
	w.enable(b)
	holds(t, m, l, b, w)
	l.Set(m, 8194, false)
	w.set(b, 8194, false)
	l.Disable(m)
	w.disable(b)
	holds(t, m, l, b, w)
	l.Set(m, 8192, false)
	w.set(b, 8192, false)
	holds(t, m, l, b, w)
	if b[30] != 0xfa {
		t.Fatal(b)
	}
}

func TestTablesThatOverlap(t *testing.T) { // P15.2: the configuration is read after the bits became 0
	m := create(t, []byte{255, 255, 255, 255, 255, 255, 255, 255, 255, 255, 255, 255, 9, 255, 255, 255})
	l := build(t, m, 12, 0, 0)
	l.Enable(m)
	want := []struct {
		in bool
		p  int
	}{{false, 0}, {false, 240}, {true, 248}, {true, 248}}
	for k, x := range want {
		if in, p := l.Setup(8192 + k); in != x.in || p != x.p {
			t.Errorf("Setup(%d): %v, %d", 8192+k, in, p)
		}
	}
	if n := len(slices.Collect(l.Waiting(m))); n != 12 {
		t.Errorf("Waiting: %d", n)
	}
}

func TestSet(t *testing.T) { // P15.3
	for _, on := range []bool{false, true} {
		b := mixed(60, 3)
		m := create(t, b)
		l, w := build(t, m, 21, 0, 30), newModel(21, 0, 30)
		if on {
			l.Enable(m)
			w.enable(b)
		}
		for _, is := range []bool{true, true, false, false, true} {
			for id := 8192; id < 8192+21; id++ {
				was, e := l.Set(m, id, is)
				if want, _ := w.set(b, id, is); was != want || e != api.OK {
					t.Fatalf("Set(%d, %v): %v, %d", id, is, was, e)
				}
				if l.Has(m, id) != is {
					t.Fatalf("Has(%d) after Set(%v)", id, is)
				}
				holds(t, m, l, b, w)
			}
		}
	}
}

func TestStrangers(t *testing.T) { // P15.3, P15.4, W1, W3, W4
	for _, many := range []int{1, 8, 9, 16, 511, 512} {
		for _, on := range []bool{false, true} {
			b := slices.Repeat([]byte{255}, 700)
			m := create(t, b)
			l, w := build(t, m, many, 10, 550), newModel(many, 10, 550)
			if on {
				l.Enable(m)
				w.enable(b)
			}
			o := build(t, m, 512, 0, 600)
			for _, id := range strangers(many) {
				stranger(t, m, l, o, id, many)
			}
			holds(t, m, l, b, w)
			holds(t, m, o, b, newModel(512, 0, 600))
		}
	}
}

// stranger makes all calls with a number that is none of l's interrupts; o is another one's.
func stranger(t *testing.T, m *mem.Mem, l, o *lpi.Lpis, id, many int) {
	t.Helper()
	if l.Has(m, id) {
		t.Errorf("%d: Has(%d)", many, id)
	}
	for _, is := range []bool{false, true} {
		if was, e := l.Set(m, id, is); was || e != api.ErrLpi {
			t.Errorf("%d: Set(%d): %v, %d", many, id, was, e)
		}
	}
	if e := l.Inv(m, id); e != api.ErrLpi {
		t.Errorf("%d: Inv(%d): %d", many, id, e)
	}
	if in, p := l.Setup(id); in || p != 0 {
		t.Errorf("%d: Setup(%d): %v, %d", many, id, in, p)
	}
	if lpi.Move(m, id, l, o) || lpi.Move(m, id, o, l) || lpi.Move(m, id, l, l) {
		t.Errorf("%d: Move(%d)", many, id)
	}
}

func TestWaitingLoops(t *testing.T) { // P15.3, W8
	m := create(t, make([]byte, 100))
	l := build(t, m, 100, 0, 80)
	for _, on := range []bool{false, true} {
		if on {
			l.Enable(m)
		}
		want := []int{8192, 8193, 8199, 8200, 8255, 8256, 8291}
		for _, id := range []int{8200, 8193, 8291, 8192, 8256, 8255, 8199} {
			l.Set(m, id, true)
		}
		loops(t, l.Waiting(m), want)
	}
}

// loops goes through a sequence again, in part, and within itself.
func loops(t *testing.T, seq func(func(int) bool), want []int) {
	t.Helper()
	for range 2 {
		if got := slices.Collect(seq); !slices.Equal(got, want) {
			t.Fatalf("%v, want %v", got, want)
		}
		for most := range want {
			var got []int
			for id := range seq {
				if got = append(got, id); len(got) > most {
					break
				}
			}
			if !slices.Equal(got, want[:most+1]) {
				t.Fatalf("left early: %v, want %v", got, want[:most+1])
			}
		}
		n := 0
		for range seq {
			for range seq {
				n++
			}
		}
		if n != len(want)*len(want) {
			t.Fatalf("nested: %d", n)
		}
	}
}

func TestWaitingIsLate(t *testing.T) { // P15.3, W8: it yields what exists during the loop
	m := create(t, make([]byte, 100))
	l := build(t, m, 20, 0, 80)
	seq := l.Waiting(m)
	if got := slices.Collect(seq); len(got) != 0 {
		t.Errorf("at first: %v", got)
	}
	l.Set(m, 8211, true)
	if got := slices.Collect(seq); !slices.Equal(got, []int{8211}) {
		t.Errorf("after Set: %v", got)
	}
	l.Enable(m)
	l.Set(m, 8200, true)
	if got := slices.Collect(seq); !slices.Equal(got, []int{8200, 8211}) {
		t.Errorf("after Enable: %v", got)
	}
	l.Disable(m)
	m.Put(win(80, 3), 1, 0, 0)
	if got := slices.Collect(seq); !slices.Equal(got, []int{8192}) {
		t.Errorf("after Disable: %v", got)
	}
}

func TestWaitingWithChanges(t *testing.T) { // W1: nothing is promised of what it yields, but that it ends
	m := create(t, make([]byte, 100))
	for _, on := range []bool{false, true} {
		l := build(t, m, 20, 0, 80)
		if on {
			l.Enable(m)
		}
		l.Set(m, 8192, true)
		for id := range l.Waiting(m) {
			l.Set(m, id, false)
			l.Set(m, id+1, true)
			if l.On() {
				l.Disable(m)
			} else {
				l.Enable(m)
			}
		}
	}
}

func TestSetup(t *testing.T) { // P15.4: for each byte that there is
	m := create(t, make([]byte, 300))
	l := build(t, m, 256, 0, 256)
	for k := range 256 {
		m.Write(all(m), k, 1, uint64(k))
	}
	l.InvAll(m)
	for k := range 256 {
		if in, p := l.Setup(8192 + k); in != (k%2 == 1) || p != k-k%8 {
			t.Errorf("Setup of %d: %v, %d", k, in, p)
		}
	}
	for k, x := range map[int]int{0: 0, 1: 0, 7: 0, 8: 8, 9: 8, 161: 160, 247: 240, 248: 248, 254: 248, 255: 248} {
		if _, p := l.Setup(8192 + k); p != x {
			t.Errorf("priority of %d: %d", k, p)
		}
	}
}

func TestInv(t *testing.T) { // P15.4: one by one, or all, and not of themselves
	for _, on := range []bool{false, true} {
		m := create(t, make([]byte, 40))
		l := build(t, m, 16, 2, 20)
		if on {
			l.Enable(m)
		}
		m.Put(win(0, 20), slices.Repeat([]byte{0xf9}, 20)...)
		known := make([]int, 16)
		for _, k := range []int{0, 15, 7, 8, 7} {
			if e := l.Inv(m, 8192+k); e != api.OK {
				t.Errorf("Inv(%d): %d", 8192+k, e)
			}
			known[k] = 248
			for k, want := range known {
				if in, p := l.Setup(8192 + k); in != (want != 0) || p != want {
					t.Errorf("Setup(%d): %v, %d, want %d", 8192+k, in, p, want)
				}
			}
		}
		m.Put(win(0, 20), slices.Repeat([]byte{0x10}, 20)...)
		l.InvAll(m)
		for k := range 16 {
			if in, p := l.Setup(8192 + k); in || p != 16 {
				t.Errorf("Setup(%d) after InvAll: %v, %d", 8192+k, in, p)
			}
		}
		if l.On() != on {
			t.Error("it was switched")
		}
	}
}

func TestSetupStays(t *testing.T) { // P15.4: off, too, and until it is read anew
	m := create(t, make([]byte, 40))
	l := build(t, m, 16, 0, 20)
	m.Put(win(0, 1), 41)
	l.Enable(m)
	l.Disable(m)
	m.Put(win(0, 1), 80)
	l.Set(m, 8192, true)
	if in, p := l.Setup(8192); !in || p != 40 {
		t.Errorf("Setup: %v, %d", in, p)
	}
	l.Enable(m)
	if in, p := l.Setup(8192); in || p != 80 {
		t.Errorf("Setup after Enable: %v, %d", in, p)
	}
}

func TestBest(t *testing.T) { // P15.4
	for _, x := range []struct {
		setup []byte
		wait  []int
		id, p int
	}{
		{[]byte{161, 161, 161}, []int{0, 1, 2}, 8192, 160},
		{[]byte{161, 161, 161}, []int{2, 1}, 8193, 160},
		{[]byte{161, 153, 161}, []int{0, 1, 2}, 8193, 152},
		{[]byte{161, 153, 1}, []int{0, 1, 2}, 8194, 0},
		{[]byte{1, 153, 153}, []int{1, 2}, 8193, 152},
		{[]byte{167, 161, 163}, []int{0, 1, 2}, 8192, 160},
		{[]byte{255, 160, 152}, []int{0, 1, 2}, 8192, 248},
		{[]byte{255, 160, 249}, []int{1, 2}, 8194, 248},
		{[]byte{0, 0, 1}, []int{0, 1, 2}, 8194, 0},
		{[]byte{1, 1, 1}, nil, 0, 0},
		{[]byte{0, 254, 160}, []int{0, 1, 2}, 0, 0},
		{[]byte{1, 254, 160}, []int{1, 2}, 0, 0},
	} {
		m := create(t, make([]byte, 20))
		m.Put(all(m), x.setup...)
		l := build(t, m, 3, 0, 8)
		for _, k := range x.wait {
			l.Set(m, 8192+k, true)
		}
		l.InvAll(m)
		if c := l.Best(); c != (api.Candidate{}) {
			t.Errorf("%v: Best while off: %v", x, c)
		}
		l.Enable(m)
		want := api.Candidate{ID: x.id, Priority: x.p, Group: 1, Is: true}
		if x.id == 0 {
			want = api.Candidate{}
		}
		if c := l.Best(); c != want {
			t.Errorf("%v: Best: %v", x, c)
		}
		l.Disable(m)
		if c := l.Best(); c != (api.Candidate{}) {
			t.Errorf("%v: Best while off again: %v", x, c)
		}
	}
}

func TestBestGoesByWhatWasRead(t *testing.T) { // P15.4
	m := create(t, make([]byte, 20))
	l := build(t, m, 2, 0, 8)
	l.Enable(m)
	l.Set(m, 8192, true)
	l.Set(m, 8193, true)
	m.Put(all(m), 17, 9)
	for _, x := range []struct{ inv, id, p int }{{0, 0, 0}, {8192, 8192, 16}, {8193, 8193, 8}} {
		l.Inv(m, x.inv)
		if c := l.Best(); c.ID != x.id || c.Priority != x.p || c.Is != (x.id > 0) {
			t.Errorf("after Inv(%d): %v", x.inv, c)
		}
	}
	m.Put(win(1, 1), 8)
	l.Inv(m, 8193)
	if c := l.Best(); c.ID != 8192 || !l.Has(m, 8193) {
		t.Errorf("after 8193 is not enabled: %v", c)
	}
}

func TestMove(t *testing.T) { // P15.5: on and off, either way
	for n := range 4 {
		b := mixed(120, n)
		b[64], b[65], b[72], b[73] = 0x31, 0x82, 0x10, 0
		m := create(t, b)
		l, o, w, v := build(t, m, 16, 0, 64), build(t, m, 9, 20, 72), newModel(16, 0, 64), newModel(9, 20, 72)
		if n&1 != 0 {
			l.Enable(m)
			w.enable(b)
		}
		if n&2 != 0 {
			o.Enable(m)
			v.enable(b)
		}
		for _, x := range []struct {
			id  int
			is  bool
			has []int
		}{
			{8192, true, []int{8192, 8196}}, {8192, false, []int{8192, 8196}}, {8193, false, []int{8192, 8196}},
			{8196, true, []int{8192, 8196}}, {8201, false, []int{8192, 8196}}, {8197, true, []int{8192, 8196, 8197}},
			{8200, false, []int{8192, 8196, 8197}}, {8207, false, []int{8192, 8196, 8197}},
		} {
			if is := lpi.Move(m, x.id, l, o); is != x.is || is != move(b, x.id, w, v) {
				t.Fatalf("%d: Move(%d): %v", n, x.id, is)
			}
			if got := slices.Collect(o.Waiting(m)); !slices.Equal(got, x.has) || x.is && l.Has(m, x.id) {
				t.Fatalf("%d: after Move(%d): %v", n, x.id, got)
			}
			holds(t, m, l, b, w)
			holds(t, m, o, b, v)
		}
		if got := slices.Collect(l.Waiting(m)); !slices.Equal(got, []int{8201, 8207}) {
			t.Errorf("%d: the others: %v", n, got)
		}
	}
}

func TestMoveToItself(t *testing.T) { // P15.5
	for _, on := range []bool{false, true} {
		b := mixed(40, 5)
		b[30] = 7
		m := create(t, b)
		l, w := build(t, m, 16, 0, 30), newModel(16, 0, 30)
		if on {
			l.Enable(m)
			w.enable(b)
		}
		if lpi.Move(m, 8192, l, l) || lpi.MoveAll(m, l, l) != 0 {
			t.Error("something was moved")
		}
		holds(t, m, l, b, w)
	}
}

func TestMoveToACopy(t *testing.T) { // P15.5: a copy is another one
	m := create(t, make([]byte, 40))
	l := build(t, m, 16, 0, 30)
	l.Enable(m)
	c := l.Copy()
	l.Set(m, 8200, true)
	if !lpi.Move(m, 8200, l, c) || l.Has(m, 8200) || !c.Has(m, 8200) {
		t.Error("it was not moved")
	}
	if !lpi.Move(m, 8200, c, l) || !l.Has(m, 8200) || c.Has(m, 8200) {
		t.Error("it was not moved back")
	}
}

func TestMoveAll(t *testing.T) { // P15.5
	for n := range 4 {
		b := mixed(120, n+7)
		b[64], b[65], b[72], b[73] = 0x31, 0x83, 0x10, 0
		m := create(t, b)
		l, o, w, v := build(t, m, 16, 0, 64), build(t, m, 9, 20, 72), newModel(16, 0, 64), newModel(9, 20, 72)
		if n&1 != 0 {
			l.Enable(m)
			w.enable(b)
		}
		if n&2 != 0 {
			o.Enable(m)
			v.enable(b)
		}
		for _, want := range []int{4, 0} {
			if got := lpi.MoveAll(m, l, o); got != want || got != moveAll(b, w, v) {
				t.Errorf("%d: MoveAll: %d, want %d", n, got, want)
			}
			holds(t, m, l, b, w)
			holds(t, m, o, b, v)
		}
		if got := slices.Collect(l.Waiting(m)); !slices.Equal(got, []int{8201, 8207}) {
			t.Errorf("%d: left: %v", n, got)
		}
		if got := lpi.MoveAll(m, o, l); got != 4 || len(slices.Collect(o.Waiting(m))) != 0 {
			t.Errorf("%d: back: %d", n, got)
		}
	}
}

func TestMoveAllOfTablesThatOverlap(t *testing.T) { // P15.5: those that are pending at the call
	m := create(t, make([]byte, 80))
	l, o := build(t, m, 16, 0, 64), build(t, m, 16, 20, 65)
	m.Put(win(64, 3), 1, 0, 0)
	// 8192 of o has the bit of 8200 of l, which becomes pending on the way.
	if n := lpi.MoveAll(m, l, o); n != 1 || !l.Has(m, 8200) || l.Has(m, 8192) || !o.Has(m, 8192) {
		t.Errorf("MoveAll: %d", n)
	}
}

func TestMoveWithTheSameTable(t *testing.T) { // P15.5: it becomes pending in to ahead of being no longer pending in from
	m := create(t, make([]byte, 80))
	l, o := build(t, m, 16, 0, 64), build(t, m, 16, 20, 64)
	l.Set(m, 8200, true)
	if !lpi.Move(m, 8200, l, o) || l.Has(m, 8200) || o.Has(m, 8200) {
		t.Error("Move")
	}
}

func TestCopy(t *testing.T) { // P15.5, W6
	for _, on := range []bool{false, true} {
		b := mixed(60, 11)
		m := create(t, b)
		l, w := build(t, m, 20, 0, 40), newModel(20, 0, 40)
		if on {
			l.Enable(m)
			w.enable(b)
		}
		l.Inv(m, 8199)
		w.inv(b, 8199)
		c, v := l.Copy(), w.clone()
		if c == l {
			t.Fatal("it is the same")
		}
		holds(t, m, c, b, v)
		keeps(t, m, b)
		for seed := range 20 {
			next := roll(seed)
			step(t, next, m, b, []*lpi.Lpis{l}, []*model{w})
			holds(t, m, c, b, v)
			step(t, next, m, b, []*lpi.Lpis{c}, []*model{v})
			holds(t, m, l, b, w)
		}
	}
}

func TestOtherMemories(t *testing.T) { // W1: nothing is promised of what the calls return, but that they do
	m := create(t, mixed(100, 2))
	for _, size := range []int{0, 1, 20, 81, 99, 200} {
		for _, on := range []bool{false, true} {
			l, o := build(t, m, 80, 0, 80), build(t, m, 16, 5, 90)
			if on {
				l.Enable(m)
			}
			s := create(t, make([]byte, size))
			l.Set(s, 8192, true)
			l.Set(s, 8250, false)
			l.Inv(s, 8192)
			l.InvAll(s)
			lpi.Move(s, 8192, l, o)
			lpi.MoveAll(s, l, o)
			for range l.Waiting(s) {
			}
			l.Has(s, 8193)
			l.Disable(s)
			l.Enable(s)
		}
	}
}

func TestLongRows(t *testing.T) { // P15.1 to P15.5
	for seed := range 60 {
		next := roll(seed)
		b := mixed(1100+next(50), seed)
		var ls []*lpi.Lpis
		var ws []*model
		m := create(t, b)
		// The tables of the first rows lie apart; those of the others meet.
		for k := range 3 {
			many, prop, pend := 1+next(300), 300*k, 900+50*k
			if seed%2 != 0 {
				prop, pend = next(100), next(150)
			}
			ls, ws = append(ls, build(t, m, many, prop, pend)), append(ws, newModel(many, prop, pend))
		}
		for range 150 {
			step(t, next, m, b, ls, ws)
		}
		for k, l := range ls {
			holds(t, m, l, b, ws[k])
		}
	}
}

// step makes one call of any kind, of the interrupts and of their models, and holds what it returns against one another.
func step(t *testing.T, next func(n int) int, m *mem.Mem, b []byte, ls []*lpi.Lpis, ws []*model) {
	t.Helper()
	k, j := next(len(ls)), next(len(ls))
	l, w := ls[k], ws[k]
	id := 8190 + next(w.many+4)
	switch next(10) {
	case 0:
		l.Enable(m)
		w.enable(b)
	case 1:
		l.Disable(m)
		w.disable(b)
	case 2, 3, 4:
		is := next(3) > 0
		was, e := l.Set(m, id, is)
		if wantWas, want := w.set(b, id, is); was != wantWas || e != want {
			t.Fatalf("Set(%d, %v): %v, %d, want %v, %d", id, is, was, e, wantWas, want)
		}
	case 5:
		if e, want := l.Inv(m, id), w.inv(b, id); e != want {
			t.Fatalf("Inv(%d): %d, want %d", id, e, want)
		}
	case 6:
		l.InvAll(m)
		copy(w.known, b[w.prop:])
	case 7:
		if is, want := lpi.Move(m, id, l, ls[j]), move(b, id, w, ws[j]); is != want {
			t.Fatalf("Move(%d): %v, want %v", id, is, want)
		}
	case 8:
		if n, want := lpi.MoveAll(m, l, ls[j]), moveAll(b, w, ws[j]); n != want {
			t.Fatalf("MoveAll: %d, want %d", n, want)
		}
	case 9:
		at, v := next(len(b)), byte(next(256))
		m.Put(win(at, 1), v)
		b[at] = v
	}
	holds(t, m, l, b, w)
	holds(t, m, ls[j], b, ws[j])
}
