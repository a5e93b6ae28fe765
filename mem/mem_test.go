package mem_test

import (
	"bytes"
	"encoding/binary"
	"math"
	"math/big"
	"slices"
	"testing"

	"crier/api"
	"crier/mem"
)

// top is the greatest address, and the greatest size, of a bounded window.
const top = 1 << 40

func win(at, size int) api.Window { return api.Window{At: at, Size: size} }

func create(t *testing.T, size int) *mem.Mem {
	t.Helper()
	m, e := mem.New(size)
	if m == nil || e != api.OK {
		t.Fatalf("New(%d): %v, %d", size, m, e)
	}
	return m
}

// filled returns a memory in which all bytes differ from 0, and from their neighbours.
func filled(t *testing.T, size int) *mem.Mem {
	t.Helper()
	m := create(t, size)
	for i := range size {
		if e := m.Write(all(m), i, 1, uint64(i%255+1)); e != api.OK {
			t.Fatal(i, e)
		}
	}
	return m
}

func all(m *mem.Mem) api.Window { return win(0, m.Size()) }

// whole returns all bytes of a memory.
func whole(t *testing.T, m *mem.Mem) []byte {
	t.Helper()
	b, e := m.Bytes(all(m))
	if e != api.OK {
		t.Fatal(e)
	}
	return b
}

// holds reports where the bytes of a memory differ from want.
func holds(t *testing.T, m *mem.Mem, want []byte) {
	t.Helper()
	if got := whole(t, m); !bytes.Equal(got, want) {
		t.Fatalf("%v, want %v", got, want)
	}
}

// outside lists windows that a memory does not hold.
func outside(m *mem.Mem) []api.Window {
	n := m.Size()
	return []api.Window{
		win(n+1, 0), win(n, 1), win(0, n+1), win(1, n), win(n+1, -1), win(n+8, -8), win(-1, 0), win(-1, 1), win(-1, 2),
		win(-8, 8), win(0, -1), win(1, -1), win(8, -8), win(-1, -1), win(top, 1), win(0, top), win(1<<62, 1<<62),
		win(1<<62, math.MaxInt), win(math.MaxInt, 0), win(math.MaxInt, 1), win(0, math.MaxInt), win(1, math.MaxInt),
		win(math.MaxInt, math.MaxInt), win(math.MinInt, 0), win(math.MinInt, 8), win(0, math.MinInt), win(8, math.MinInt),
		win(math.MinInt, math.MinInt), win(math.MinInt, math.MaxInt), win(math.MaxInt, math.MinInt), win(-math.MaxInt, math.MaxInt),
	}
}

// roll returns a source of numbers below a given one, which depend on seed alone.
func roll(seed int) func(n int) int {
	x := uint64(seed)*2 + 1
	return func(n int) int {
		x = x*6364136223846793005 + 1442695040888963407
		return int(x >> 33 % uint64(n))
	}
}

func TestExample(t *testing.T) { // P4.1 to P4.5
	m, w := create(t, 16), win(4, 8)
	if e := m.Write(w, 0, 4, 258); e != api.OK {
		t.Errorf("Write: %d", e)
	}
	for _, x := range []struct {
		w          api.Window
		off, width int
		want       uint64
		wrong      api.Errno
	}{
		{w, 0, 8, 258, api.OK}, {w, 4, 8, 0, api.ErrAlign}, {w, 8, 8, 0, api.ErrUnmapped}, {w, 0, 2, 0, api.ErrWidth},
		{win(10, 8), 0, 8, 0, api.ErrUnmapped},
	} {
		if v, e := m.Read(x.w, x.off, x.width); v != x.want || e != x.wrong {
			t.Errorf("%v: %d, %d", x, v, e)
		}
	}
	if b, e := m.Bytes(win(4, 2)); !bytes.Equal(b, []byte{2, 1}) || e != api.OK {
		t.Errorf("Bytes: %v, %d", b, e)
	}
	if mem.Meet(win(0, 4), win(4, 4)) {
		t.Error("windows meet that only touch")
	}
	if p, e := mem.Part(w, 2, 6); p != win(6, 6) || e != api.OK {
		t.Errorf("Part: %v, %d", p, e)
	}
}

func TestNew(t *testing.T) { // P4.1
	for _, size := range []int{0, 1, 2, 7, 8, 16, 255, 4096, api.MaxMem - 1, api.MaxMem} {
		m := create(t, size)
		if m.Size() != size {
			t.Errorf("Size: %d, want %d", m.Size(), size)
		}
		holds(t, m, make([]byte, size))
	}
	for _, size := range []int{-1, -8, api.MaxMem + 1, 2 * api.MaxMem, top, 1 << 62, math.MaxInt, math.MaxInt - 1, math.MinInt, math.MinInt + 1} {
		if m, e := mem.New(size); m != nil || e != api.ErrArg {
			t.Errorf("New(%d): %v, %d", size, m, e)
		}
	}
}

func TestMemoriesAreApart(t *testing.T) { // P4.1, W2
	a, b := create(t, 8), create(t, 8)
	a.Put(all(a), 1, 2, 3)
	holds(t, a, []byte{1, 2, 3, 0, 0, 0, 0, 0})
	holds(t, b, make([]byte, 8))
}

func TestSizeStays(t *testing.T) { // P4.1
	m := create(t, 5)
	m.Put(all(m), 1, 2, 3, 4, 5)
	m.Put(all(m), 1, 2, 3, 4, 5, 6)
	m.Put(win(5, 0), 1)
	m.Wipe(all(m))
	m.Write(all(m), 4, 4, 1)
	if m.Size() != 5 {
		t.Errorf("Size: %d", m.Size())
	}
}

func TestHolds(t *testing.T) { // P4.1
	for _, size := range []int{0, 1, 8, 13} {
		m := create(t, size)
		for at := -3; at < size+4; at++ {
			for n := -3; n < size+4; n++ {
				want := at >= 0 && n >= 0 && at+n <= size
				if m.Holds(win(at, n)) != want {
					t.Errorf("%d bytes hold {%d, %d}: %v", size, at, n, !want)
				}
			}
		}
	}
}

func TestHoldsOfWrongWindows(t *testing.T) { // P4.1, W5
	for _, size := range []int{0, 1, 8, 16, api.MaxMem} {
		m := create(t, size)
		for _, w := range outside(m) {
			if m.Holds(w) {
				t.Errorf("%d bytes hold %v", size, w)
			}
		}
		for _, w := range []api.Window{win(0, 0), win(size, 0), win(0, size)} {
			if !m.Holds(w) {
				t.Errorf("%d bytes do not hold %v", size, w)
			}
		}
	}
}

func TestMay(t *testing.T) { // P4.2
	for _, x := range []struct {
		size, off, width int
		want             api.Errno
	}{
		{8, 0, 1, api.OK}, {8, 7, 1, api.OK}, {8, 8, 1, api.ErrUnmapped}, {8, -1, 1, api.ErrUnmapped},
		{8, 0, 4, api.OK}, {8, 4, 4, api.OK}, {8, 8, 4, api.ErrUnmapped}, {8, -4, 4, api.ErrUnmapped}, {7, 4, 4, api.ErrUnmapped},
		{8, 0, 8, api.OK}, {8, 8, 8, api.ErrUnmapped}, {8, -8, 8, api.ErrUnmapped}, {15, 8, 8, api.ErrUnmapped}, {16, 8, 8, api.OK},
		{8, 1, 4, api.ErrAlign}, {8, 2, 4, api.ErrAlign}, {8, 3, 4, api.ErrAlign}, {16, 4, 8, api.ErrAlign}, {16, 1, 8, api.ErrAlign},
		{8, 9, 4, api.ErrAlign}, {8, -1, 4, api.ErrAlign}, {8, -4, 8, api.ErrAlign}, {0, 1, 4, api.ErrAlign}, {-1, 1, 8, api.ErrAlign},
		{8, 0, 0, api.ErrWidth}, {8, 0, 2, api.ErrWidth}, {8, 0, 3, api.ErrWidth}, {8, 0, 16, api.ErrWidth}, {8, 0, -1, api.ErrWidth},
		{8, 1, 2, api.ErrWidth}, {8, -1, 0, api.ErrWidth}, {8, 99, -4, api.ErrWidth}, {0, 0, 0, api.ErrWidth}, {8, 0, -8, api.ErrWidth},
		{0, 0, 1, api.ErrUnmapped}, {0, 0, 4, api.ErrUnmapped}, {0, 0, 8, api.ErrUnmapped}, {3, 0, 4, api.ErrUnmapped}, {-1, 0, 1, api.ErrUnmapped},
		{1, 0, 1, api.OK}, {4, 0, 4, api.OK},
	} {
		if e := mem.May(x.size, x.off, x.width); e != x.want {
			t.Errorf("May(%d, %d, %d): %d, want %d", x.size, x.off, x.width, e, x.want)
		}
	}
}

func TestMayAtBothEnds(t *testing.T) { // P4.2, W1, W5
	for _, x := range []struct {
		size, off, width int
		want             api.Errno
	}{
		{math.MaxInt, math.MaxInt - 1, 1, api.OK}, {math.MaxInt, math.MaxInt, 1, api.ErrUnmapped},
		{math.MaxInt, math.MaxInt - 7, 4, api.OK}, {math.MaxInt, math.MaxInt - 3, 4, api.ErrUnmapped},
		{math.MaxInt, math.MaxInt - 7, 8, api.ErrUnmapped}, {math.MaxInt, math.MaxInt - 15, 8, api.OK}, {math.MaxInt, math.MaxInt, 8, api.ErrAlign},
		{math.MaxInt, math.MinInt, 1, api.ErrUnmapped}, {math.MaxInt, math.MinInt, 8, api.ErrUnmapped}, {0, math.MinInt, 4, api.ErrUnmapped},
		{math.MaxInt, math.MinInt + 1, 4, api.ErrAlign},
		{8, 0, math.MinInt, api.ErrWidth}, {8, 0, math.MaxInt, api.ErrWidth}, {math.MinInt, math.MinInt, math.MinInt, api.ErrWidth},
		// The difference of size and width wraps around.
		{math.MinInt, 0, 1, api.OK}, {math.MinInt, math.MaxInt, 1, api.OK}, {math.MinInt, -1, 1, api.ErrUnmapped},
		{math.MinInt + 1, 0, 1, api.ErrUnmapped}, {math.MinInt + 3, 0, 4, api.OK}, {math.MinInt + 4, 0, 4, api.ErrUnmapped},
		{math.MinInt, math.MaxInt - 3, 4, api.OK}, {math.MinInt, math.MaxInt - 7, 8, api.OK}, {math.MinInt + 7, math.MaxInt - 7, 8, api.OK},
		{math.MinInt + 8, 0, 8, api.ErrUnmapped}, {math.MinInt, 4, 8, api.ErrAlign}, {math.MinInt, math.MinInt, 8, api.ErrUnmapped},
	} {
		if e := mem.May(x.size, x.off, x.width); e != x.want {
			t.Errorf("May(%d, %d, %d): %d, want %d", x.size, x.off, x.width, e, x.want)
		}
	}
}

func TestMayOfEachAccess(t *testing.T) { // P4.2
	for size := -3; size < 20; size++ {
		for off := -17; off < 24; off++ {
			for width := -9; width < 18; width++ {
				want := api.OK
				switch {
				case !slices.Contains([]int{1, 4, 8}, width):
					want = api.ErrWidth
				case off%width != 0:
					want = api.ErrAlign
				case off < 0 || off+width > size:
					want = api.ErrUnmapped
				}
				if e := mem.May(size, off, width); e != want {
					t.Errorf("May(%d, %d, %d): %d, want %d", size, off, width, e, want)
				}
			}
		}
	}
}

func TestRead(t *testing.T) { // P4.3
	m := create(t, 16)
	m.Put(all(m), 0x10, 0x21, 0x32, 0x43, 0x54, 0x65, 0x76, 0x87, 0x98, 0xa9, 0xba, 0xcb, 0xdc, 0xed, 0xfe, 0xff)
	for _, x := range []struct {
		at, size, off, width int
		want                 uint64
	}{
		{0, 16, 0, 1, 0x10}, {0, 16, 15, 1, 0xff}, {0, 16, 0, 4, 0x43322110}, {0, 16, 12, 4, 0xfffeeddc}, {0, 16, 0, 8, 0x8776655443322110},
		{0, 16, 8, 8, 0xfffeeddccbbaa998}, {8, 8, 0, 8, 0xfffeeddccbbaa998}, {3, 5, 4, 1, 0x87}, {3, 5, 0, 4, 0x76655443},
		// The offset is a multiple of the width, the address is not.
		{1, 12, 0, 8, 0x9887766554433221}, {1, 12, 8, 4, 0xdccbbaa9}, {7, 8, 0, 8, 0xfeeddccbbaa99887}, {15, 1, 0, 1, 0xff},
	} {
		if v, e := m.Read(win(x.at, x.size), x.off, x.width); v != x.want || e != api.OK {
			t.Errorf("%v: %#x, %d", x, v, e)
		}
	}
}

func TestWrite(t *testing.T) { // P4.3
	const v = 0xf1e2d3c4b5a69788
	for _, x := range []struct {
		at, size, off, width int
		want                 []byte
	}{
		{0, 12, 0, 1, []byte{0x88, 2, 3, 4, 5, 6, 7, 8, 9, 10, 11, 12}},
		{0, 12, 11, 1, []byte{1, 2, 3, 4, 5, 6, 7, 8, 9, 10, 11, 0x88}},
		{0, 12, 4, 4, []byte{1, 2, 3, 4, 0x88, 0x97, 0xa6, 0xb5, 9, 10, 11, 12}},
		{3, 8, 4, 4, []byte{1, 2, 3, 4, 5, 6, 7, 0x88, 0x97, 0xa6, 0xb5, 12}},
		{0, 12, 0, 8, []byte{0x88, 0x97, 0xa6, 0xb5, 0xc4, 0xd3, 0xe2, 0xf1, 9, 10, 11, 12}},
		{4, 8, 0, 8, []byte{1, 2, 3, 4, 0x88, 0x97, 0xa6, 0xb5, 0xc4, 0xd3, 0xe2, 0xf1}},
		{1, 9, 0, 8, []byte{1, 0x88, 0x97, 0xa6, 0xb5, 0xc4, 0xd3, 0xe2, 0xf1, 10, 11, 12}},
	} {
		m := filled(t, 12)
		w := win(x.at, x.size)
		if e := m.Write(w, x.off, x.width, v); e != api.OK {
			t.Errorf("%v: %d", x, e)
		}
		holds(t, m, x.want)
		if got, e := m.Read(w, x.off, x.width); got != v&(1<<(8*x.width)-1) || e != api.OK {
			t.Errorf("%v: %#x, %d", x, got, e)
		}
	}
}

func TestWriteOfOuterNumbers(t *testing.T) { // P4.3
	m := create(t, 8)
	for _, v := range []uint64{0, 1, 255, 256, math.MaxInt32, math.MaxUint32, 1 << 32, math.MaxInt64, 1 << 63, math.MaxUint64} {
		for _, width := range []int{8, 4, 1} {
			m.Write(all(m), 0, width, v)
			if got, e := m.Read(all(m), 0, 8); got != v || e != api.OK {
				t.Errorf("%d of width %d: %d, %d", v, width, got, e)
			}
		}
	}
}

func TestErrorsOfAccesses(t *testing.T) { // P4.3, W3, W4
	m := filled(t, 24)
	want := whole(t, m)
	fails := func(w api.Window, off, width int, want api.Errno) {
		if v, e := m.Read(w, off, width); v != 0 || e != want {
			t.Errorf("Read(%v, %d, %d): %d, %d, want %d", w, off, width, v, e, want)
		}
		if e := m.Write(w, off, width, math.MaxUint64); e != want {
			t.Errorf("Write(%v, %d, %d): %d, want %d", w, off, width, e, want)
		}
	}
	for _, w := range outside(m) {
		for _, width := range []int{1, 4, 8, 0, 2, -1, math.MinInt} {
			for _, off := range []int{0, 1, -1, -8, 8, math.MinInt, math.MaxInt} {
				fails(w, off, width, api.ErrUnmapped)
			}
		}
	}
	ends := []int{math.MinInt, math.MinInt + 7, math.MinInt + 8, math.MaxInt, math.MaxInt - 3, math.MaxInt - 7}
	for _, w := range []api.Window{win(0, 0), win(24, 0), win(0, 24), win(8, 8), win(3, 9), win(23, 1), win(0, 3)} {
		for width := -2; width < 10; width++ {
			for _, off := range slices.Concat(ends, []int{-16, -8, -4, -1, 0, 1, 2, 4, 7, 8, 9, 12, 16, 20, 21, 23, 24}) {
				if e := mem.May(w.Size, off, width); e != api.OK {
					fails(w, off, width, e)
				}
			}
		}
	}
	holds(t, m, want)
}

func TestWindowBoundsAccess(t *testing.T) { // P4.3
	m := filled(t, 24)
	want := whole(t, m)
	w := win(8, 8)
	for _, off := range []int{-8, -1, 8, 9, 12, 15} {
		for _, width := range []int{1, 4, 8} {
			wrong := api.ErrUnmapped
			if off%width != 0 {
				wrong = api.ErrAlign
			}
			if v, e := m.Read(w, off, width); v != 0 || e != wrong {
				t.Errorf("Read(%d, %d): %d, %d", off, width, v, e)
			}
			if e := m.Write(w, off, width, 0); e != wrong {
				t.Errorf("Write(%d, %d): %d", off, width, e)
			}
		}
	}
	holds(t, m, want)
}

func TestBytes(t *testing.T) { // P4.4
	m := filled(t, 12)
	for at := range 13 {
		for n := 0; at+n <= 12; n++ {
			var want []byte
			for i := range n {
				want = append(want, byte(at+i+1))
			}
			if b, e := m.Bytes(win(at, n)); !bytes.Equal(b, want) || e != api.OK {
				t.Errorf("Bytes({%d, %d}): %v, %d", at, n, b, e)
			}
		}
	}
}

func TestBytesAreNew(t *testing.T) { // P4.4, W6
	m := filled(t, 4)
	a, _ := m.Bytes(win(1, 2))
	b, _ := m.Bytes(win(1, 2))
	a[0] = 99
	a = append(a, 98)
	holds(t, m, []byte{1, 2, 3, 4})
	m.Put(all(m), 5, 6, 7, 8)
	if !bytes.Equal(a, []byte{99, 3, 98}) || !bytes.Equal(b, []byte{2, 3}) {
		t.Errorf("%v, %v", a, b)
	}
}

func TestPut(t *testing.T) { // P4.4
	for _, x := range []struct {
		w    api.Window
		b    []byte
		want []byte
	}{
		{win(0, 6), nil, []byte{1, 2, 3, 4, 5, 6}},
		{win(0, 6), []byte{}, []byte{1, 2, 3, 4, 5, 6}},
		{win(6, 0), nil, []byte{1, 2, 3, 4, 5, 6}},
		{win(0, 6), []byte{0}, []byte{0, 2, 3, 4, 5, 6}},
		{win(2, 4), []byte{255, 0, 128}, []byte{1, 2, 255, 0, 128, 6}},
		{win(2, 3), []byte{9, 8, 7}, []byte{1, 2, 9, 8, 7, 6}},
		{win(5, 1), []byte{9}, []byte{1, 2, 3, 4, 5, 9}},
		{win(0, 6), []byte{9, 8, 7, 6, 5, 4}, []byte{9, 8, 7, 6, 5, 4}},
	} {
		m := filled(t, 6)
		if e := m.Put(x.w, x.b...); e != api.OK {
			t.Errorf("Put(%v, %v): %d", x.w, x.b, e)
		}
		holds(t, m, x.want)
	}
}

func TestPutKeepsNoArgument(t *testing.T) { // P4.4, W6
	m := create(t, 4)
	b := []byte{1, 2, 3, 4}
	m.Put(all(m), b...)
	b[0] = 9
	holds(t, m, []byte{1, 2, 3, 4})
	m.Wipe(all(m))
	if !bytes.Equal(b, []byte{9, 2, 3, 4}) {
		t.Errorf("%v", b)
	}
}

func TestPutOfTooMany(t *testing.T) { // P4.4, W4
	m := filled(t, 8)
	want := whole(t, m)
	for _, w := range []api.Window{win(0, 0), win(8, 0), win(0, 1), win(3, 2), win(0, 7), win(7, 1)} {
		if e := m.Put(w, make([]byte, w.Size+1)...); e != api.ErrUnmapped {
			t.Errorf("Put of %d bytes into %v: %d", w.Size+1, w, e)
		}
	}
	if e := m.Put(all(m), make([]byte, 9)...); e != api.ErrUnmapped {
		t.Errorf("Put of 9 bytes: %d", e)
	}
	holds(t, m, want)
}

func TestWipe(t *testing.T) { // P4.4
	for at := range 7 {
		for n := 0; at+n <= 6; n++ {
			m := filled(t, 6)
			want := whole(t, m)
			for i := range n {
				want[at+i] = 0
			}
			if e := m.Wipe(win(at, n)); e != api.OK {
				t.Errorf("Wipe({%d, %d}): %d", at, n, e)
			}
			holds(t, m, want)
		}
	}
}

func TestErrorsOfBytes(t *testing.T) { // P4.4, W3, W4
	for _, size := range []int{0, 1, 16} {
		m := filled(t, size)
		want := whole(t, m)
		for _, w := range outside(m) {
			if b, e := m.Bytes(w); len(b) != 0 || e != api.ErrUnmapped {
				t.Errorf("Bytes(%v): %v, %d", w, b, e)
			}
			if e := m.Wipe(w); e != api.ErrUnmapped {
				t.Errorf("Wipe(%v): %d", w, e)
			}
			for _, b := range [][]byte{nil, {}, {0}, make([]byte, 17)} {
				if e := m.Put(w, b...); e != api.ErrUnmapped {
					t.Errorf("Put(%v, %v): %d", w, b, e)
				}
			}
		}
		holds(t, m, want)
	}
}

func TestPart(t *testing.T) { // P4.5
	for _, x := range []struct {
		w        api.Window
		at, size int
		want     api.Window
	}{
		{win(4, 8), 2, 6, win(6, 6)},
		{win(4, 8), 0, 8, win(4, 8)},
		{win(4, 8), 8, 0, win(12, 0)},
		{win(4, 8), 0, 0, win(4, 0)},
		{win(4, 8), 7, 1, win(11, 1)},
		{api.Window{}, 0, 0, api.Window{}},
		{win(top, 0), 0, 0, win(top, 0)},
		{win(top, top), top, 0, win(2*top, 0)},
		{win(top, top), 0, top, win(top, top)},
		{win(top, top), 1, top - 1, win(top+1, top-1)},
		{win(top, top), top - 1, 1, win(2*top-1, 1)},
	} {
		if w, e := mem.Part(x.w, x.at, x.size); w != x.want || e != api.OK {
			t.Errorf("Part(%v, %d, %d): %v, %d", x.w, x.at, x.size, w, e)
		}
	}
}

func TestErrorsOfPart(t *testing.T) { // P4.5, W3
	for _, x := range []struct {
		w        api.Window
		at, size int
	}{
		{win(4, 8), 2, 7}, {win(4, 8), 9, 0}, {win(4, 8), 0, 9},
		{win(4, 8), 8, 1}, {win(4, 8), -1, 0}, {win(4, 8), -1, 4},
		{win(4, 8), -4, 4}, {win(4, 8), 4, -1}, {win(4, 8), 9, -1},
		{win(4, 8), -1, -1}, {api.Window{}, 0, 1}, {api.Window{}, 1, 0}, {api.Window{}, 1, -1},
		{win(-1, 8), 0, 8}, {win(-1, 8), 2, 2}, {win(8, -1), 0, 0},
		{win(8, -8), 0, -8}, {win(8, -8), -8, 0}, {win(top+1, 0), 0, 0},
		{win(0, top+1), 0, 0}, {win(top+1, 8), 0, 8}, {win(8, top+1), 0, 8},
		{win(top, top), top + 1, 0}, {win(top, top), 1, top},
	} {
		if w, e := mem.Part(x.w, x.at, x.size); w != (api.Window{}) || e != api.ErrUnmapped {
			t.Errorf("Part(%v, %d, %d): %v, %d", x.w, x.at, x.size, w, e)
		}
	}
}

// ends lists numbers on both sides of those that windows and their parts are limited by.
func ends() []int {
	return []int{
		math.MinInt, math.MinInt + 1, math.MinInt + 8, -1 << 62, -top, -8, -1, 0, 1, 4, 8, top - 1, top, top + 1, 2 * top,
		1 << 62, math.MaxInt - 8, math.MaxInt - 1, math.MaxInt,
	}
}

// bounded reports whether a window is bounded, as the chapter has it.
func bounded(w api.Window) bool { return 0 <= min(w.At, w.Size) && max(w.At, w.Size) <= top }

func TestPartAtBothEnds(t *testing.T) { // P4.5, W1, W5
	for _, a := range ends() {
		for _, n := range ends() {
			for _, at := range ends() {
				for _, size := range ends() {
					w := win(a, n)
					sum := new(big.Int).Add(big.NewInt(int64(at)), big.NewInt(int64(size)))
					want, wrong := api.Window{}, api.ErrUnmapped
					if bounded(w) && at >= 0 && size >= 0 && sum.Cmp(big.NewInt(int64(n))) <= 0 {
						want, wrong = win(a+at, size), api.OK
					}
					if got, e := mem.Part(w, at, size); got != want || e != wrong {
						t.Fatalf("Part(%v, %d, %d): %v, %d, want %v, %d", w, at, size, got, e, want, wrong)
					}
				}
			}
		}
	}
}

func TestMeet(t *testing.T) { // P4.5
	for a := range 8 {
		for n := range 8 {
			for b := range 8 {
				for k := range 8 {
					want := false
					for i := a; i < a+n; i++ {
						want = want || b <= i && i < b+k
					}
					if mem.Meet(win(a, n), win(b, k)) != want {
						t.Errorf("{%d, %d} meets {%d, %d}: %v", a, n, b, k, !want)
					}
				}
			}
		}
	}
}

func TestMeetOfEmptyWindows(t *testing.T) { // P4.5
	w := win(4, 8)
	for _, x := range []api.Window{win(4, 0), win(8, 0), win(12, 0), win(0, 0)} {
		if mem.Meet(w, x) || mem.Meet(x, w) || mem.Meet(x, x) {
			t.Errorf("%v meets something", x)
		}
	}
}

func TestMeetAtBothEnds(t *testing.T) { // P4.5, W1, W5
	var l []api.Window
	for _, a := range ends() {
		for _, n := range ends() {
			l = append(l, win(a, n))
		}
	}
	for _, a := range l {
		for _, b := range l {
			// Of bounded windows, neither sum wraps around.
			want := bounded(a) && bounded(b) && a.Size > 0 && b.Size > 0 && a.At < b.At+b.Size && b.At < a.At+a.Size
			if mem.Meet(a, b) != want {
				t.Errorf("%v meets %v: %v", a, b, !want)
			}
		}
	}
	for _, x := range []struct {
		a, b api.Window
		want bool
	}{
		{win(top, top), win(top, 1), true},
		{win(top, top), win(0, top), false},
		{win(top, 1), win(1, top), true},
		{win(top+1, 1), win(top, top), false},
		{win(0, top+1), win(0, 1), false},
		{win(-1, 4), win(0, 4), false},
	} {
		if mem.Meet(x.a, x.b) != x.want || mem.Meet(x.b, x.a) != x.want {
			t.Errorf("%v meets %v: %v", x.a, x.b, !x.want)
		}
	}
}

func TestCopy(t *testing.T) { // P4.5, W6
	for _, size := range []int{0, 1, 16, api.MaxMem} {
		m := filled(t, size)
		want := whole(t, m)
		c := m.Copy()
		if c.Size() != size {
			t.Errorf("Size: %d, want %d", c.Size(), size)
		}
		holds(t, c, want)
		m.Wipe(all(m))
		holds(t, c, want)
		c.Put(all(c), want[:size/2]...)
		c.Write(all(c), 0, 1, 77)
		holds(t, m, make([]byte, size))
	}
}

func TestCopyChangesAlone(t *testing.T) { // P4.5, W6
	m := filled(t, 8)
	want := whole(t, m)
	a := m.Copy()
	b := a.Copy()
	a.Put(all(a), 9, 9, 9)
	b.Wipe(all(b))
	b.Write(all(b), 0, 8, 5)
	holds(t, m, want)
	holds(t, a, []byte{9, 9, 9, 4, 5, 6, 7, 8})
	holds(t, b, []byte{5, 0, 0, 0, 0, 0, 0, 0})
}

func TestLongComparison(t *testing.T) { // P4.1, P4.3, P4.4
	const size = 40
	for seed := range 8 {
		r := roll(seed)
		m, model := create(t, size), make([]byte, size)
		for range 2000 {
			w := win(r(size+6)-3, r(20)-2)
			held := w.At >= 0 && w.Size >= 0 && w.At+w.Size <= size
			var part []byte
			wrong := api.ErrUnmapped
			if held {
				part, wrong = model[w.At:w.At+w.Size], api.OK
			}
			switch r(4) {
			case 0:
				b := make([]byte, r(8))
				for i := range b {
					b[i] = byte(r(256))
				}
				if len(b) > len(part) {
					wrong = api.ErrUnmapped
				} else {
					copy(part, b)
				}
				if e := m.Put(w, b...); e != wrong {
					t.Fatalf("Put(%v, %v): %d", w, b, e)
				}
			case 1:
				if w.Size < 4 {
					clear(part)
					if e := m.Wipe(w); e != wrong {
						t.Fatalf("Wipe(%v): %d", w, e)
					}
				}
			default:
				access(t, m, w, part, wrong, r)
			}
			holds(t, m, model)
		}
	}
}

// access reads a number from a window, writes another one there, and does the same to the bytes part of a model.
func access(t *testing.T, m *mem.Mem, w api.Window, part []byte, wrong api.Errno, r func(int) int) {
	t.Helper()
	width := []int{1, 4, 8}[r(3)]
	off := (r(5) - 1) * width
	want, v, n := make([]byte, 8), make([]byte, 8), 0
	if wrong == api.OK {
		if wrong = mem.May(w.Size, off, width); wrong == api.OK {
			n = copy(want, part[off:off+width])
		}
	}
	for i := range v {
		v[i] = byte(r(256))
	}
	if got, e := m.Read(w, off, width); got != binary.LittleEndian.Uint64(want) || e != wrong {
		t.Fatalf("Read(%v, %d, %d): %#x, %d, want %v, %d", w, off, width, got, e, want, wrong)
	}
	if e := m.Write(w, off, width, binary.LittleEndian.Uint64(v)); e != wrong {
		t.Fatalf("Write(%v, %d, %d): %d, want %d", w, off, width, e, wrong)
	}
	if n > 0 {
		copy(part[off:], v[:n])
	}
}
