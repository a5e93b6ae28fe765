package bus_test

import (
	"cmp"
	"iter"
	"math"
	"math/big"
	"slices"
	"testing"

	"crier/api"
	"crier/bus"
	"crier/mem"
)

// top is the end of the addresses that spans may occupy.
const top = 1 << 40

func span(base, size int) api.Span { return api.Span{Base: base, Size: size, Kind: api.Memory} }

func create(t *testing.T, spans ...api.Span) *bus.Bus {
	t.Helper()
	b, e := bus.New(spans...)
	if b == nil || e != api.OK {
		t.Fatalf("New(%v): %v, %d", spans, b, e)
	}
	return b
}

// spans returns the spans that a bus yields.
func spans(b *bus.Bus) []api.Span { return slices.Collect(b.Spans()) }

// gap is a range of addresses, as Free yields it.
type gap struct{ at, n int }

func gaps(s iter.Seq2[int, int]) []gap {
	var l []gap
	for at, n := range s {
		l = append(l, gap{at, n})
	}
	return l
}

// row returns n spans of 4 addresses each, with 4 free addresses after each one.
func row(n int) []api.Span {
	var l []api.Span
	for i := range n {
		l = append(l, api.Span{Base: 8 * i, Size: 4, Kind: api.Kind(1 + i%4), Index: i})
	}
	return l
}

// refused reports an answer of New or With that is not the error wanted, without a bus.
func refused(t *testing.T, what any, b *bus.Bus, e, want api.Errno) {
	t.Helper()
	if b != nil || e != want {
		t.Errorf("%v: %v, %d, want nil and %d", what, b, e, want)
	}
}

// ends lists numbers on both sides of those that spans and accesses are limited by.
func ends() []int {
	return []int{
		math.MinInt, math.MinInt + 1, math.MinInt + 8, -1 << 62, -top, -8, -1, 0, 1, 4, 8, top - 8, top - 1, top, top + 1, 2 * top,
		1 << 62, math.MaxInt - 8, math.MaxInt - 1, math.MaxInt,
	}
}

// roll returns a source of numbers below a given one, which depend on seed alone.
func roll(seed int) func(n int) int {
	x := uint64(seed)*2 + 1
	return func(n int) int {
		x = x*6364136223846793005 + 1442695040888963407
		return int(x >> 33 % uint64(n))
	}
}

func TestExample(t *testing.T) { // P5.1 to P5.3
	first := span(256, 64)
	b := create(t, first, api.Span{Size: 16, Kind: api.DistFrame})
	for _, x := range []struct {
		addr, width int
		s           api.Span
		off         int
		wrong       api.Errno
	}{
		{260, 4, first, 4, api.OK}, {316, 8, api.Span{}, 0, api.ErrAlign}, {312, 8, first, 56, api.OK}, {16, 8, api.Span{}, 0, api.ErrUnmapped},
	} {
		if s, off, e := b.Find(x.addr, x.width); s != x.s || off != x.off || e != x.wrong {
			t.Errorf("%v: %v, %d, %d", x, s, off, e)
		}
	}
	if l := gaps(b.Free(300)); !slices.Equal(l, []gap{{16, 240}}) {
		t.Errorf("Free: %v", l)
	}
	if at, e := b.Place(100, 64, 1000); at != 64 || e != api.OK {
		t.Errorf("Place: %d, %d", at, e)
	}
	if at, e := b.Place(300, 1, 400); at != 0 || e != api.ErrFull {
		t.Errorf("Place: %d, %d", at, e)
	}
}

func TestNoSpans(t *testing.T) { // P5.1 to P5.3
	for _, b := range []*bus.Bus{create(t), create(t, nil...), create(t, []api.Span{}...)} {
		if l := spans(b); len(l) != 0 {
			t.Errorf("Spans: %v", l)
		}
		if s, off, e := b.Find(0, 1); s != (api.Span{}) || off != 0 || e != api.ErrUnmapped {
			t.Errorf("Find: %v, %d, %d", s, off, e)
		}
		if l := gaps(b.Free(9)); !slices.Equal(l, []gap{{0, 9}}) {
			t.Errorf("Free: %v", l)
		}
		if at, e := b.Place(top, top, top); at != 0 || e != api.OK {
			t.Errorf("Place: %d, %d", at, e)
		}
		c, e := b.With(span(8, 1))
		if e != api.OK || !slices.Equal(spans(c), []api.Span{span(8, 1)}) {
			t.Errorf("With: %v, %d", c, e)
		}
	}
}

func TestValidSpans(t *testing.T) { // P5.1
	for _, s := range []api.Span{
		span(0, 1), span(0, top), span(top-1, 1), span(1, top-1), span(top/2, top/2),
		{Size: 1, Kind: api.Memory}, {Size: 1, Kind: api.DistFrame}, {Size: 1, Kind: api.RedistFrame}, {Size: 1, Kind: api.ItsFrame},
		{Base: 3, Size: 5, Kind: api.ItsFrame, Index: 1}, {Base: 3, Size: 5, Kind: api.RedistFrame, Index: math.MaxInt},
	} {
		if l := spans(create(t, s)); !slices.Equal(l, []api.Span{s}) {
			t.Errorf("Spans: %v, want %v", l, s)
		}
	}
}

// wrong lists spans that are not valid, of each for one reason or several.
func wrong() []api.Span {
	l := []api.Span{
		{}, span(0, 0), span(8, 0), span(8, -1), span(8, -8), span(-1, 1), span(-1, 2), span(-8, 16), span(-1, top), span(top, 1), span(top, 0),
		span(0, top+1), span(1, top), span(top-1, 2), span(top+1, 1), span(-1, top+1), span(1, math.MaxInt), span(math.MaxInt, 1),
		span(math.MaxInt, math.MaxInt), span(1<<62, 1<<62), span(math.MinInt, 1), span(math.MinInt, math.MaxInt), span(0, math.MinInt),
		span(math.MinInt, math.MinInt), span(math.MaxInt, math.MinInt), span(0, math.MaxInt),
	}
	for _, k := range []api.Kind{0, -1, 5, 99, math.MaxInt, math.MinInt} {
		l = append(l, api.Span{Base: 8, Size: 8, Kind: k})
	}
	for _, i := range []int{-1, -8, math.MinInt, math.MinInt + 1} {
		l = append(l, api.Span{Base: 8, Size: 8, Kind: api.Memory, Index: i})
	}
	return l
}

func TestWrongSpans(t *testing.T) { // P5.1, W3
	for _, s := range wrong() {
		b, e := bus.New(s)
		refused(t, s, b, e, api.ErrArg)
		b, e = bus.New(span(100, 4), s)
		refused(t, s, b, e, api.ErrArg)
		b, e = bus.New(s, span(100, 4))
		refused(t, s, b, e, api.ErrArg)
		b, e = bus.New(s, s)
		refused(t, s, b, e, api.ErrArg)
	}
}

func TestSpansAtBothEnds(t *testing.T) { // P5.1, W5
	for _, base := range ends() {
		for _, size := range ends() {
			s := span(base, size)
			sum := new(big.Int).Add(big.NewInt(int64(base)), big.NewInt(int64(size)))
			b, e := bus.New(s)
			if size >= 1 && base >= 0 && sum.Cmp(big.NewInt(top)) <= 0 {
				if e != api.OK || !slices.Equal(spans(b), []api.Span{s}) {
					t.Errorf("New(%v): %v, %d", s, b, e)
				}
			} else {
				refused(t, s, b, e, api.ErrArg)
			}
		}
	}
}

func TestNumberOfSpans(t *testing.T) { // P5.1
	for n := range api.MaxSpans + 1 {
		if l := spans(create(t, row(n)...)); !slices.Equal(l, row(n)) {
			t.Errorf("%d spans: %v", n, l)
		}
	}
	for _, n := range []int{api.MaxSpans + 1, api.MaxSpans + 2, 2 * api.MaxSpans, 1000} {
		b, e := bus.New(row(n)...)
		refused(t, n, b, e, api.ErrArg)
	}
}

func TestSpansThatMeet(t *testing.T) { // P5.1
	for a := range 7 {
		for n := 1; n < 6; n++ {
			for c := range 7 {
				for k := 1; k < 6; k++ {
					x, y := span(a, n), api.Span{Base: c, Size: k, Kind: api.ItsFrame, Index: 1}
					b, e := bus.New(x, y)
					switch {
					case a < c+k && c < a+n:
						refused(t, []api.Span{x, y}, b, e, api.ErrSpan)
					case b == nil || e != api.OK:
						t.Errorf("New(%v, %v): %v, %d", x, y, b, e)
					}
				}
			}
		}
	}
}

func TestSpansThatMeetAmongOthers(t *testing.T) { // P5.1
	for _, l := range [][]api.Span{
		{span(8, 8), span(8, 8)},
		{span(8, 8), span(32, 8), span(8, 8)},
		{span(0, 4), span(16, 4), span(18, 4), span(32, 4)},
		{span(0, 4), span(32, 4), span(18, 4), span(16, 4)},
		{span(0, 100), span(8, 8), span(32, 8)},
		{span(8, 8), span(90, 8), span(0, 100)},
		{span(4, 4), span(0, 8), span(8, 8)},
		{span(0, top), span(top-1, 1)},
		{span(0, top), span(0, 1)},
		append(row(api.MaxSpans-1), span(3, 1)),
		append(row(api.MaxSpans-1), span(4, 5)),
	} {
		b, e := bus.New(l...)
		refused(t, l, b, e, api.ErrSpan)
	}
}

func TestErrorsOfNewInOrder(t *testing.T) { // P5.1, W4
	for _, l := range [][]api.Span{
		{span(8, 8), span(8, 8), span(0, 0)},
		{span(0, 0), span(8, 8), span(8, 8)},
		{span(8, 8), span(12, 8), {Base: 64, Size: 1, Kind: 5}},
		append(row(api.MaxSpans), span(0, 4)),
		append(row(api.MaxSpans), span(0, -1)),
	} {
		b, e := bus.New(l...)
		refused(t, l, b, e, api.ErrArg)
	}
}

func TestSpansIncrease(t *testing.T) { // P5.1, W6
	want := row(api.MaxSpans)
	for seed := range 20 {
		r, l := roll(seed), row(api.MaxSpans)
		for i := range l {
			k := i + r(len(l)-i)
			l[i], l[k] = l[k], l[i]
		}
		given := slices.Clone(l)
		b := create(t, l...)
		if !slices.Equal(l, given) {
			t.Errorf("New changed its argument to %v", l)
		}
		clear(l)
		if got := spans(b); !slices.Equal(got, want) {
			t.Errorf("Spans: %v", got)
		}
	}
}

func TestSpansThatTouch(t *testing.T) { // P5.1 to P5.3
	b := create(t, span(16, 8), span(0, 8), span(8, 8))
	if l := spans(b); !slices.Equal(l, []api.Span{span(0, 8), span(8, 8), span(16, 8)}) {
		t.Errorf("Spans: %v", l)
	}
	for addr := 0; addr < 24; addr += 8 {
		if s, off, e := b.Find(addr, 8); s != span(addr, 8) || off != 0 || e != api.OK {
			t.Errorf("Find(%d, 8): %v, %d, %d", addr, s, off, e)
		}
	}
	if l := gaps(b.Free(30)); !slices.Equal(l, []gap{{24, 6}}) {
		t.Errorf("Free: %v", l)
	}
	if at, e := b.Place(1, 1, 24); at != 0 || e != api.ErrFull {
		t.Errorf("Place: %d, %d", at, e)
	}
}

func TestFind(t *testing.T) { // P5.2
	low := api.Span{Size: 3, Kind: api.DistFrame, Index: 2}
	mid := api.Span{Base: 6, Size: 13, Kind: api.RedistFrame, Index: 7}
	next := api.Span{Base: 19, Size: 5, Kind: api.ItsFrame}
	last := api.Span{Base: top - 9, Size: 9, Kind: api.Memory, Index: math.MaxInt}
	b := create(t, last, mid, low, next)
	none := api.Span{}
	for _, x := range []struct {
		addr, width int
		s           api.Span
		off         int
		wrong       api.Errno
	}{
		{0, 1, low, 0, api.OK}, {2, 1, low, 2, api.OK}, {3, 1, none, 0, api.ErrUnmapped}, {0, 4, none, 0, api.ErrUnmapped},
		{5, 1, none, 0, api.ErrUnmapped}, {6, 1, mid, 0, api.OK}, {4, 4, none, 0, api.ErrUnmapped}, {8, 4, mid, 2, api.OK}, {8, 8, mid, 2, api.OK},
		{0, 8, none, 0, api.ErrUnmapped}, {12, 4, mid, 6, api.OK}, {18, 1, mid, 12, api.OK}, {19, 1, next, 0, api.OK}, {23, 1, next, 4, api.OK},
		{24, 1, none, 0, api.ErrUnmapped},
		// These addresses lie in two spans, which have no free address between them.
		{16, 4, none, 0, api.ErrUnmapped}, {16, 8, none, 0, api.ErrUnmapped}, {20, 4, next, 1, api.OK},
		{top - 1, 1, last, 8, api.OK}, {top - 9, 1, last, 0, api.OK}, {top - 10, 1, none, 0, api.ErrUnmapped}, {top - 8, 8, last, 1, api.OK},
		{top - 4, 4, last, 5, api.OK}, {top - 12, 4, none, 0, api.ErrUnmapped}, {top - 16, 8, none, 0, api.ErrUnmapped},
		{top, 1, none, 0, api.ErrUnmapped}, {top, 8, none, 0, api.ErrUnmapped}, {1 << 39, 4, none, 0, api.ErrUnmapped},
	} {
		if s, off, e := b.Find(x.addr, x.width); s != x.s || off != x.off || e != x.wrong {
			t.Errorf("%v: %v, %d, %d", x, s, off, e)
		}
	}
}

func TestErrorsOfFind(t *testing.T) { // P5.2, W3, W4
	for _, b := range []*bus.Bus{create(t), create(t, span(0, top)), create(t, row(5)...), create(t, span(8, 64))} {
		for _, addr := range append(ends(), 2, 3, 12, 16, 31, 32, 33, -4, -2) {
			for _, width := range append(ends(), 2, 3, 5, 7, 9, 16, -4, -2) {
				e := mem.May(top, addr, width)
				if e == api.OK {
					continue
				}
				if s, off, got := b.Find(addr, width); s != (api.Span{}) || off != 0 || got != e {
					t.Errorf("Find(%d, %d): %v, %d, %d, want %d", addr, width, s, off, got, e)
				}
			}
		}
	}
	b := create(t, span(0, 64))
	for _, x := range []struct {
		addr, width int
		want        api.Errno
	}{
		{0, 2, api.ErrWidth}, {64, 2, api.ErrWidth}, {1, 0, api.ErrWidth}, {-1, -1, api.ErrWidth}, {2, 4, api.ErrAlign}, {65, 8, api.ErrAlign},
		{-1, 4, api.ErrAlign}, {-8, 8, api.ErrUnmapped}, {64, 8, api.ErrUnmapped}, {top, 1, api.ErrUnmapped}, {math.MaxInt, 1, api.ErrUnmapped},
		{math.MinInt, 8, api.ErrUnmapped}, {math.MaxInt, 8, api.ErrAlign}, {math.MaxInt - 7, 8, api.ErrUnmapped},
	} {
		if s, off, e := b.Find(x.addr, x.width); s != (api.Span{}) || off != 0 || e != x.want {
			t.Errorf("%v: %v, %d, %d", x, s, off, e)
		}
	}
}

func TestFindInTheGreatestSpan(t *testing.T) { // P5.2
	s := span(0, top)
	b := create(t, s)
	for _, x := range []gap{{0, 1}, {0, 8}, {8, 8}, {1 << 39, 8}, {top - 8, 8}, {top - 4, 4}, {top - 1, 1}} {
		if got, off, e := b.Find(x.at, x.n); got != s || off != x.at || e != api.OK {
			t.Errorf("Find(%d, %d): %v, %d, %d", x.at, x.n, got, off, e)
		}
	}
}

func TestFree(t *testing.T) { // P5.3
	b := create(t, span(20, 4), span(8, 4), span(12, 2))
	for _, x := range []struct {
		end  int
		want []gap
	}{
		{math.MinInt, nil}, {math.MinInt + 1, nil}, {-top, nil}, {-1, nil}, {0, nil}, {1, []gap{{0, 1}}}, {7, []gap{{0, 7}}}, {8, []gap{{0, 8}}},
		{9, []gap{{0, 8}}}, {12, []gap{{0, 8}}}, {13, []gap{{0, 8}}}, {14, []gap{{0, 8}}}, {15, []gap{{0, 8}, {14, 1}}},
		{20, []gap{{0, 8}, {14, 6}}}, {22, []gap{{0, 8}, {14, 6}}}, {24, []gap{{0, 8}, {14, 6}}}, {25, []gap{{0, 8}, {14, 6}, {24, 1}}},
		{top, []gap{{0, 8}, {14, 6}, {24, top - 24}}}, {top + 1, []gap{{0, 8}, {14, 6}, {24, top - 23}}},
		{math.MaxInt - 1, []gap{{0, 8}, {14, 6}, {24, math.MaxInt - 25}}}, {math.MaxInt, []gap{{0, 8}, {14, 6}, {24, math.MaxInt - 24}}},
	} {
		if l := gaps(b.Free(x.end)); !slices.Equal(l, x.want) {
			t.Errorf("Free(%d): %v, want %v", x.end, l, x.want)
		}
	}
}

func TestFreeAtBothEnds(t *testing.T) { // P5.3
	for _, x := range []struct {
		s    api.Span
		end  int
		want []gap
	}{
		{span(0, 1), 0, nil}, {span(0, 1), 1, nil}, {span(0, 1), 2, []gap{{1, 1}}}, {span(0, top), top, nil}, {span(0, top), math.MinInt, nil},
		{span(0, top), top + 3, []gap{{top, 3}}}, {span(0, top), math.MaxInt, []gap{{top, math.MaxInt - top}}},
		{span(top-1, 1), top, []gap{{0, top - 1}}}, {span(top-1, 1), top - 1, []gap{{0, top - 1}}}, {span(top-1, 1), top - 2, []gap{{0, top - 2}}},
		{span(top-1, 1), top + 1, []gap{{0, top - 1}, {top, 1}}}, {span(1, top-1), math.MaxInt, []gap{{0, 1}, {top, math.MaxInt - top}}},
	} {
		if l := gaps(create(t, x.s).Free(x.end)); !slices.Equal(l, x.want) {
			t.Errorf("%v: Free(%d): %v, want %v", x.s, x.end, l, x.want)
		}
	}
}

func TestPlace(t *testing.T) { // P5.3
	b := create(t, span(20, 4), span(8, 4), span(12, 2), span(40, 8))
	for _, x := range []struct {
		size, step, end int
		want            int
		wrong           api.Errno
	}{
		{8, 1, 100, 0, api.OK}, {8, 8, 8, 0, api.OK}, {8, 1, 7, 0, api.ErrFull}, {9, 1, 100, 24, api.OK}, {16, 1, 100, 24, api.OK}, {17, 1, 100, 48, api.OK},
		{9, 8, 100, 24, api.OK}, {9, 16, 100, 48, api.OK}, {9, 5, 100, 25, api.OK}, {15, 5, 100, 25, api.OK}, {16, 5, 100, 50, api.OK},
		{9, 1, 33, 24, api.OK}, {9, 1, 32, 0, api.ErrFull}, {52, 1, 100, 48, api.OK}, {53, 1, 100, 0, api.ErrFull}, {50, 50, 100, 50, api.OK},
		{51, 50, 100, 0, api.ErrFull}, {1, 7, 8, 0, api.OK}, {1, 1, 0, 0, api.ErrFull}, {top, top, top, 0, api.ErrFull}, {1, top, top, 0, api.OK},
		{9, top, top, 0, api.ErrFull}, {top - 48, 1, top, 48, api.OK}, {top - 47, 1, top, 0, api.ErrFull}, {top - 64, 64, top, 64, api.OK},
		{top / 2, top / 2, top, top / 2, api.OK}, {top/2 + 1, top / 2, top, 0, api.ErrFull}, {17, top - 1, top, 0, api.ErrFull}, {9, top - 9, top, top - 9, api.OK},
		{9, top - 8, top, 0, api.ErrFull}, {10, top - 9, top, 0, api.ErrFull},
	} {
		if at, e := b.Place(x.size, x.step, x.end); at != x.want || e != x.wrong {
			t.Errorf("%v: %d, %d", x, at, e)
		}
	}
}

func TestPlaceOfWrongNumbers(t *testing.T) { // P5.3, W1, W3, W4
	for _, b := range []*bus.Bus{create(t), create(t, span(0, top)), create(t, row(api.MaxSpans)...)} {
		for _, size := range ends() {
			for _, step := range ends() {
				for _, end := range ends() {
					right := size >= 1 && size <= top && step >= 1 && step <= top && end >= 0 && end <= top
					at, e := b.Place(size, step, end)
					if (e == api.ErrArg) == right || e != api.OK && at != 0 {
						t.Errorf("Place(%d, %d, %d): %d, %d", size, step, end, at, e)
					}
				}
			}
		}
	}
}

func TestPlaceOfNoSpans(t *testing.T) { // P5.3
	b := create(t)
	for _, x := range []struct {
		size, step, end int
		want            api.Errno
	}{
		{1, 1, 0, api.ErrFull}, {1, 1, 1, api.OK}, {2, 1, 1, api.ErrFull}, {top, 1, top, api.OK}, {top, 1, top - 1, api.ErrFull},
		{top - 1, top, top, api.OK}, {1, top, 1, api.OK},
	} {
		if at, e := b.Place(x.size, x.step, x.end); at != 0 || e != x.want {
			t.Errorf("%v: %d, %d", x, at, e)
		}
	}
}

func TestPlaceOfNothingFree(t *testing.T) { // P5.3
	b := create(t, span(0, top/2), span(top/2, top/2))
	for _, end := range []int{0, 1, top / 2, top} {
		if at, e := b.Place(1, 1, end); at != 0 || e != api.ErrFull {
			t.Errorf("Place(1, 1, %d): %d, %d", end, at, e)
		}
	}
}

func TestWith(t *testing.T) { // P5.3, W6
	b := create(t, span(32, 4), span(0, 4))
	c, e := b.With(span(16, 4))
	if e != api.OK || !slices.Equal(spans(c), []api.Span{span(0, 4), span(16, 4), span(32, 4)}) {
		t.Fatalf("With: %v, %d", c, e)
	}
	d, e := b.With(span(20, 4))
	if e != api.OK || !slices.Equal(spans(d), []api.Span{span(0, 4), span(20, 4), span(32, 4)}) {
		t.Errorf("With: %v, %d", d, e)
	}
	if l := spans(b); !slices.Equal(l, []api.Span{span(0, 4), span(32, 4)}) {
		t.Errorf("With changed its bus to %v", l)
	}
	if l := spans(c); !slices.Equal(l, []api.Span{span(0, 4), span(16, 4), span(32, 4)}) {
		t.Errorf("another With changed the result to %v", l)
	}
	if s, off, e := c.Find(16, 4); s != span(16, 4) || off != 0 || e != api.OK {
		t.Errorf("Find: %v, %d, %d", s, off, e)
	}
}

func TestErrorsOfWith(t *testing.T) { // P5.3, W3, W4
	b := create(t, span(100, 4), span(0, 4))
	for _, s := range wrong() {
		c, e := b.With(s)
		refused(t, s, c, e, api.ErrArg)
	}
	for _, s := range []api.Span{span(0, 4), span(3, 1), span(103, 1), span(50, 51), span(0, top)} {
		c, e := b.With(s)
		refused(t, s, c, e, api.ErrSpan)
	}
	if l := spans(b); !slices.Equal(l, []api.Span{span(0, 4), span(100, 4)}) {
		t.Errorf("With changed its bus to %v", l)
	}
}

func TestWithTillTheBusIsFull(t *testing.T) { // P5.3
	b := create(t)
	for i := api.MaxSpans - 1; i >= 0; i-- {
		var e api.Errno
		if b, e = b.With(row(api.MaxSpans)[i]); e != api.OK {
			t.Fatal(i, e)
		}
	}
	if l := spans(b); !slices.Equal(l, row(api.MaxSpans)) {
		t.Errorf("Spans: %v", l)
	}
	// The number of spans comes before what they have in common.
	for _, s := range []api.Span{span(1000, 1), span(0, 4), span(0, 0)} {
		c, e := b.With(s)
		refused(t, s, c, e, api.ErrArg)
	}
}

func TestLoopsLeftEarlyAndGoneThroughAgain(t *testing.T) { // P5.1, P5.3, W8
	b := create(t, row(4)...)
	all, free := b.Spans(), b.Free(30)
	wantFree := []gap{{4, 4}, {12, 4}, {20, 4}, {28, 2}}
	for stop := range 6 {
		var l []api.Span
		for s := range all {
			if len(l) == stop {
				break
			}
			l = append(l, s)
		}
		if !slices.Equal(l, row(4)[:min(stop, 4)]) {
			t.Errorf("left after %d: %v", stop, l)
		}
		var g []gap
		for at, n := range free {
			if len(g) == stop {
				break
			}
			g = append(g, gap{at, n})
		}
		if !slices.Equal(g, wantFree[:min(stop, 4)]) {
			t.Errorf("left after %d: %v", stop, g)
		}
	}
	for range 2 {
		if l := slices.Collect(all); !slices.Equal(l, row(4)) {
			t.Errorf("Spans again: %v", l)
		}
		if g := gaps(free); !slices.Equal(g, wantFree) {
			t.Errorf("Free again: %v", g)
		}
	}
}

func TestLoopsWithinOneAnother(t *testing.T) { // P5.1, P5.3, W8
	b := create(t, row(3)...)
	all, free := b.Spans(), b.Free(100)
	n := 0
	for s := range all {
		for x := range all {
			for at := range free {
				for y := range free {
					if s == x && at == y {
						n++
					}
				}
			}
		}
	}
	if n != 9 {
		t.Errorf("%d", n)
	}
}

func TestYieldedSpansAreCopies(t *testing.T) { // P5.1, W6
	b := create(t, row(3)...)
	for s := range b.Spans() {
		s.Base, s.Size = 99, 99
	}
	l := spans(b)
	clear(l)
	if got := spans(b); !slices.Equal(got, row(3)) {
		t.Errorf("%v", got)
	}
}

// model holds what is at each address below the end of a small bus: the index of a span, or -1.
type model struct {
	spans []api.Span
	at    [48]int
}

func modelOf(l []api.Span) (model, bool) {
	m := model{spans: l}
	for i := range m.at {
		m.at[i] = -1
	}
	for i, s := range l {
		for a := s.Base; a < s.Base+s.Size; a++ {
			if m.at[a] >= 0 {
				return m, false
			}
			m.at[a] = i
		}
	}
	return m, true
}

// one returns the index of the only span that occupies n addresses, or -1 if there is none such; addresses beyond
// those of the model are free.
func (m model) one(addr, n int) int {
	for a := addr; a < addr+n; a++ {
		if a < 0 || a >= len(m.at) || m.at[a] != m.at[addr] {
			return -1
		}
	}
	return m.at[addr]
}

func (m model) free(addr, n, end int) bool {
	for a := addr; a < addr+n; a++ {
		if a >= end || a < len(m.at) && m.at[a] >= 0 {
			return false
		}
	}
	return true
}

func (m model) gaps(end int) []gap {
	var l []gap
	for a := range max(end, 0) {
		switch {
		case !m.free(a, 1, end):
		case a > 0 && m.free(a-1, 1, end):
			l[len(l)-1].n++
		default:
			l = append(l, gap{a, 1})
		}
	}
	return l
}

func (m model) place(size, step, end int) (int, api.Errno) {
	for at := 0; at+size <= end; at += step {
		if m.free(at, size, end) {
			return at, api.OK
		}
	}
	return 0, api.ErrFull
}

func TestAgainstModel(t *testing.T) { // P5.1 to P5.3
	buses := 0
	for seed := range 600 {
		r := roll(seed)
		var l []api.Span
		for i := range r(9) {
			base := r(40)
			l = append(l, api.Span{Base: base, Size: 1 + r(8), Kind: api.Kind(1 + r(4)), Index: i})
		}
		m, apart := modelOf(l)
		b, e := bus.New(l...)
		if !apart {
			refused(t, l, b, e, api.ErrSpan)
			continue
		}
		if b == nil || e != api.OK {
			t.Fatalf("New(%v): %v, %d", l, b, e)
		}
		buses++
		compare(t, b, m)
	}
	if buses < 100 {
		t.Errorf("only %d buses", buses)
	}
}

// compare holds all answers of a small bus against those of a model.
func compare(t *testing.T, b *bus.Bus, m model) {
	t.Helper()
	sorted := slices.Clone(m.spans)
	slices.SortFunc(sorted, func(x, y api.Span) int { return cmp.Compare(x.Base, y.Base) })
	if l := spans(b); !slices.Equal(l, sorted) {
		t.Fatalf("Spans: %v, want %v", l, sorted)
	}
	for addr := -9; addr < 60; addr++ {
		for _, width := range []int{1, 2, 4, 8} {
			var want api.Span
			wantOff, wrong := 0, mem.May(top, addr, width)
			if wrong == api.OK {
				wrong = api.ErrUnmapped
				if i := m.one(addr, width); addr < len(m.at) && i >= 0 {
					want, wantOff, wrong = m.spans[i], addr-m.spans[i].Base, api.OK
				}
			}
			if s, off, e := b.Find(addr, width); s != want || off != wantOff || e != wrong {
				t.Fatalf("%v: Find(%d, %d): %v, %d, %d", m.spans, addr, width, s, off, e)
			}
		}
	}
	for end := -2; end < 60; end++ {
		if l, want := gaps(b.Free(end)), m.gaps(end); !slices.Equal(l, want) {
			t.Fatalf("%v: Free(%d): %v, want %v", m.spans, end, l, want)
		}
	}
	for _, end := range []int{0, 1, 7, 20, 33, 48, 59} {
		for size := 1; size < 20; size++ {
			for step := 1; step < 20; step++ {
				want, wrong := m.place(size, step, end)
				if at, e := b.Place(size, step, end); at != want || e != wrong {
					t.Fatalf("%v: Place(%d, %d, %d): %d, %d, want %d, %d", m.spans, size, step, end, at, e, want, wrong)
				}
			}
		}
	}
}
