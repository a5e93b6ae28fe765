package lr_test

import (
	"iter"
	"math"
	"slices"
	"testing"

	"crier/api"
	"crier/lr"
)

// traversal is one of the functions that yield indices, and which ones it should yield.
type traversal struct {
	name string
	of   func(ls []api.List) iter.Seq[int]
	is   kind
}

func traversals() []traversal {
	return []traversal{{"Free", lr.Free, free}, {"Done", lr.Done, done}, {"Waits", lr.Waits, waits}}
}

// mays reports where May, Encode or Decode differs from what it should return for a list register.
func mays(t *testing.T, l api.List) {
	t.Helper()
	v, err := lr.Encode(l)
	if !may(l) {
		if e := lr.May(l); e != api.ErrList {
			t.Errorf("May(%+v): %d, want ErrList", l, e)
		}
		if v != 0 || err != api.ErrList {
			t.Errorf("Encode(%+v): %#x, %d, want 0 and ErrList", l, v, err)
		}
		return
	}
	if e := lr.May(l); e != api.OK {
		t.Errorf("May(%+v): %d, want OK", l, e)
	}
	if want := encoded(l); v != want || err != api.OK {
		t.Errorf("Encode(%+v): %#x, %d, want %#x and OK", l, v, err, want)
	}
	if got, e := lr.Decode(v); got != l || e != api.OK {
		t.Errorf("Decode(%#x): %+v, %d, want %+v and OK", v, got, e, l)
	}
}

// decodes reports where Decode differs from what it should return.
func decodes(t *testing.T, v uint64) {
	t.Helper()
	want, is := decoded(v)
	err := api.OK
	if !is {
		err = api.ErrList
	}
	if got, e := lr.Decode(v); got != want || e != err {
		t.Errorf("Decode(%#x): %+v, %d, want %+v, %d", v, got, e, want, err)
	}
}

// several reports where a function of several list registers differs from what it should return.
func several(t *testing.T, ls []api.List) {
	t.Helper()
	before := slices.Clone(ls)
	for _, x := range traversals() {
		want := places(ls, x.is)
		if got := slices.Collect(x.of(ls)); !slices.Equal(got, want) {
			t.Errorf("%s(%+v): %v, want %v", x.name, ls, got, want)
		}
		bits := uint64(0)
		for _, i := range want {
			if i < 64 {
				bits += 1 << i
			}
		}
		if got := lr.Bits(x.of(ls)); got != bits {
			t.Errorf("Bits(%s(%+v)): %#x, want %#x", x.name, ls, got, bits)
		}
	}
	if got, want := lr.Used(ls), len(places(ls, used)); got != want {
		t.Errorf("Used(%+v): %d, want %d", ls, got, want)
	}
	if got, want := lr.Best(ls), best(ls); got != want {
		t.Errorf("Best(%+v): %v, want %v", ls, got, want)
	}
	if got, want := lr.Right(ls...), right(ls); got != want {
		t.Errorf("Right(%+v): %d, want %d", ls, got, want)
	}
	numbers := []int{0, 40, 8192}
	for _, l := range ls {
		numbers = append(numbers, l.Number, l.Number+1)
	}
	for _, n := range numbers {
		if got, want := lr.Find(ls, n), find(ls, n); got != want {
			t.Errorf("Find(%+v, %d): %d, want %d", ls, n, got, want)
		}
	}
	if !slices.Equal(ls, before) {
		t.Errorf("the list registers have changed: %+v, they were %+v", ls, before)
	}
}

func TestExamples(t *testing.T) { // P20.1 to P20.4
	a := api.List{State: api.ListPending, Number: 40, Priority: 160, Group: 1}
	if v, err := lr.Encode(a); v != 0x50a0000000000028 || err != api.OK {
		t.Errorf("Encode: %#x, %d", v, err)
	}
	b := api.List{State: api.ListActive, Number: 33, Hard: true, Machine: 35}
	if v, err := lr.Encode(b); v != 0xa000002300000021 || err != api.OK {
		t.Errorf("Encode: %#x, %d", v, err)
	}
	if l, err := lr.Decode(0xa000002300000021); l != b || err != api.OK {
		t.Errorf("Decode: %+v, %d", l, err)
	}
	if err := lr.May(api.List{State: api.ListActive, Number: 8192}); err != api.ErrList {
		t.Errorf("May: %d", err)
	}
	ls := []api.List{{State: api.ListPending, Number: 40, Priority: 160}, {}, {State: api.ListBoth, Number: 41}}
	if l := slices.Collect(lr.Free(ls)); !slices.Equal(l, []int{1}) {
		t.Errorf("Free: %v", l)
	}
	if n, i := lr.Used(ls), lr.Find(ls, 41); n != 2 || i != 2 {
		t.Errorf("Used: %d, Find: %d", n, i)
	}
	if c := lr.Best(ls); c != (api.Candidate{ID: 40, Priority: 160, Is: true}) {
		t.Errorf("Best: %v", c)
	}
}

func TestMay(t *testing.T) { // P20.1
	for _, x := range []struct {
		l    api.List
		want api.Errno
	}{
		{api.List{}, api.OK},
		{api.List{State: api.ListBoth}, api.OK},
		{api.List{State: 4}, api.ErrList},
		{api.List{State: -1}, api.ErrList},
		{api.List{State: math.MinInt}, api.ErrList},
		{api.List{State: math.MaxInt}, api.ErrList},
		{api.List{Number: 1019}, api.OK},
		{api.List{Number: 1020}, api.ErrList},
		{api.List{Number: 1023}, api.ErrList},
		{api.List{Number: 8191}, api.ErrList},
		{api.List{Number: 8192}, api.OK},
		{api.List{Number: 16383}, api.OK},
		{api.List{Number: 16384}, api.ErrList},
		{api.List{Number: -1}, api.ErrList},
		{api.List{Number: math.MinInt}, api.ErrList},
		{api.List{Number: math.MaxInt}, api.ErrList},
		{api.List{Number: 1 << 32}, api.ErrList}, // the bits that are encoded are 0
		{api.List{Priority: 248}, api.OK},
		{api.List{Priority: 8}, api.OK},
		{api.List{Priority: 4}, api.ErrList},
		{api.List{Priority: 255}, api.ErrList},
		{api.List{Priority: 256}, api.ErrList},
		{api.List{Priority: -8}, api.ErrList},
		{api.List{Priority: math.MinInt}, api.ErrList},
		{api.List{Group: 1}, api.OK},
		{api.List{Group: 2}, api.ErrList},
		{api.List{Group: -1}, api.ErrList},
		{api.List{Group: 3}, api.ErrList},
		{api.List{Hard: true}, api.OK},
		{api.List{Hard: true, Machine: 1023}, api.OK},
		{api.List{Hard: true, Machine: 1024}, api.ErrList},
		{api.List{Hard: true, Machine: -1}, api.ErrList},
		{api.List{Machine: 1}, api.ErrList},
		{api.List{Machine: 512, Tell: true}, api.ErrList},
		{api.List{Tell: true}, api.OK},
		{api.List{Tell: true, Hard: true}, api.ErrList},
		{api.List{State: api.ListPending, Number: 8192, Priority: 160, Group: 1, Tell: true}, api.OK},
		{api.List{State: api.ListActive, Number: 8192}, api.ErrList},
		{api.List{State: api.ListBoth, Number: 16383}, api.ErrList},
		{api.List{State: api.ListActive, Number: 1019}, api.OK},
		{api.List{Number: 8192, Hard: true}, api.ErrList},
		{api.List{Number: 1019, Hard: true, State: api.ListBoth, Machine: 1019, Group: 1, Priority: 248}, api.OK},
	} {
		if got := lr.May(x.l); got != x.want {
			t.Errorf("May(%+v): %d, want %d", x.l, got, x.want)
		}
	}
}

func TestEachNumberInAField(t *testing.T) { // P20.1, P20.2
	for n := -300; n <= 17000; n++ {
		for k := range 20 {
			mays(t, api.List{State: api.ListState(k % 5), Number: n, Priority: 160, Group: 1, Hard: k/5&1 != 0, Tell: k/5&2 != 0})
		}
	}
	for n := -600; n <= 2200; n++ {
		for k := range 4 {
			mays(t, api.List{State: 3, Number: 40, Priority: 8, Hard: k&1 != 0, Machine: n, Tell: k&2 != 0})
			mays(t, api.List{State: 1, Number: 40 + 8160*(k&1), Priority: n, Group: k >> 1})
			mays(t, api.List{State: 1, Number: 40, Priority: 160, Group: n, Hard: k&1 != 0, Tell: k&2 != 0})
			mays(t, api.List{State: api.ListState(n), Number: 40 + 8160*(k&1), Tell: k&2 != 0})
		}
	}
}

func TestFieldsAtTheEnds(t *testing.T) { // P20.1, P20.2
	var bases []api.List
	for k := range 8 {
		for _, n := range []int{40, 8200} {
			bases = append(bases, api.List{State: api.ListState(k & 1), Number: n, Priority: 160, Group: 1, Hard: k&2 != 0, Tell: k&4 != 0})
		}
	}
	for _, b := range bases {
		for _, i := range ends() {
			for _, k := range ends() {
				for _, l := range []api.List{
					{State: api.ListState(i), Number: k, Priority: b.Priority, Group: b.Group, Hard: b.Hard, Tell: b.Tell},
					{State: api.ListState(i), Number: b.Number, Priority: k, Group: b.Group, Hard: b.Hard, Tell: b.Tell},
					{State: api.ListState(i), Number: b.Number, Priority: b.Priority, Group: k, Hard: b.Hard, Tell: b.Tell},
					{State: api.ListState(i), Number: b.Number, Priority: b.Priority, Group: b.Group, Hard: b.Hard, Machine: k, Tell: b.Tell},
					{State: b.State, Number: i, Priority: k, Group: b.Group, Hard: b.Hard, Tell: b.Tell},
					{State: b.State, Number: i, Priority: b.Priority, Group: k, Hard: b.Hard, Tell: b.Tell},
					{State: b.State, Number: i, Priority: b.Priority, Group: b.Group, Hard: b.Hard, Machine: k, Tell: b.Tell},
					{State: b.State, Number: b.Number, Priority: i, Group: k, Hard: b.Hard, Tell: b.Tell},
					{State: b.State, Number: b.Number, Priority: i, Group: b.Group, Hard: b.Hard, Machine: k, Tell: b.Tell},
					{State: b.State, Number: b.Number, Priority: b.Priority, Group: i, Hard: b.Hard, Machine: k, Tell: b.Tell},
				} {
					mays(t, l)
				}
			}
		}
	}
}

func TestFieldsTogether(t *testing.T) { // P20.1, P20.2
	next := roll(20)
	for range 20000 {
		l := good(next)
		if !may(l) {
			t.Fatalf("the test's own list register may not be: %+v", l)
		}
		mays(t, l)
		mays(t, anyList(next))
	}
}

func TestWrittenOutNumbers(t *testing.T) { // P20.2
	for _, x := range []struct {
		l api.List
		v uint64
	}{
		{api.List{}, 0},
		{api.List{State: api.ListPending}, 0x4000_0000_0000_0000},
		{api.List{State: api.ListActive}, 0x8000_0000_0000_0000},
		{api.List{State: api.ListBoth, Number: 1019, Priority: 248, Group: 1, Hard: true, Machine: 1023}, 0xf0f8_03ff_0000_03fb},
		{api.List{State: api.ListBoth, Number: 1019, Priority: 248, Group: 1, Tell: true}, 0xd0f8_0200_0000_03fb},
		{api.List{Number: 16383}, 0x3fff},
		{api.List{Number: 8192, State: api.ListPending, Tell: true}, 0x4000_0200_0000_2000},
		{api.List{Priority: 8}, 0x0008_0000_0000_0000},
		{api.List{Group: 1}, 0x1000_0000_0000_0000},
		{api.List{Hard: true}, 0x2000_0000_0000_0000},
		{api.List{Hard: true, Machine: 1}, 0x2000_0001_0000_0000},
		{api.List{Hard: true, Machine: 512}, 0x2000_0200_0000_0000}, // the bit that stands for Tell without Hard
		{api.List{Tell: true}, 0x0000_0200_0000_0000},
	} {
		if v, err := lr.Encode(x.l); v != x.v || err != api.OK {
			t.Errorf("Encode(%+v): %#x, %d, want %#x", x.l, v, err, x.v)
		}
		if l, err := lr.Decode(x.v); l != x.l || err != api.OK {
			t.Errorf("Decode(%#x): %+v, %d, want %+v", x.v, l, err, x.l)
		}
	}
}

func TestNumbersOfNoListRegister(t *testing.T) { // P20.2
	for _, v := range []uint64{
		math.MaxUint64,
		1020,                  // no interrupt
		8191,                  // no interrupt
		16384,                 // no interrupt
		0x1_0000_0000,         // a machine's interrupt without Hard
		0x0000_0300_0000_0000, // the same with Tell
		0x0000_01ff_0000_0000,
		0x0000_0400_0000_0000, // bit 42
		0x2000_0400_0000_0000, // the same with Hard
		0x0000_8000_0000_0000, // bit 47
		0x0001_0000_0000_0000, // a priority whose bits do not count
		0x00ff_0000_0000_0000,
		0x0100_0000_0000_0000, // bit 56
		0x0800_0000_0000_0000, // bit 59
		0x8000_0000_0000_2000, // an active message
		0xc000_0000_0000_2000,
		0x2000_0000_0000_2000, // a message with Hard
		0x8000_0000,
		0xffff_ffff,
	} {
		if l, err := lr.Decode(v); l != (api.List{}) || err != api.ErrList {
			t.Errorf("Decode(%#x): %+v, %d, want ErrList", v, l, err)
		}
	}
}

func TestDecodeOfEachBit(t *testing.T) { // P20.2
	bases := []uint64{0, 0x50a0000000000028, 0xa000002300000021, 0x4008_0200_0000_2000, 0xf0f8_03ff_0000_03fb, 0x3fff, math.MaxUint64}
	for _, b := range bases {
		for i := range 64 {
			for k := range 64 {
				decodes(t, b^(1<<i)^(1<<k))
			}
		}
	}
	for machine := range uint64(1 << 11) {
		for _, b := range bases {
			decodes(t, b&^(0x7ff<<32)|machine<<32)
		}
	}
	for n := range uint64(1<<14 + 40) {
		for _, b := range bases {
			decodes(t, b&^0xffffffff|n)
		}
	}
	for p := range uint64(1 << 16) {
		for _, b := range bases {
			decodes(t, b&^(0xffff<<48)|p<<48)
		}
	}
}

func TestDecodeOfAnyNumber(t *testing.T) { // P20.2
	next := roll(202)
	for range 20000 {
		v := word(next)
		decodes(t, v)
		decodes(t, v&0xf0f8_03ff_0000_3fff) // no other bit may be 1
		decodes(t, v&0xf0f8_0200_0000_03ff)
		decodes(t, encoded(good(next))^1<<next(64))
	}
}

func TestRight(t *testing.T) { // P20.3
	a := api.List{State: api.ListPending, Number: 40, Priority: 160, Group: 1}
	b := api.List{State: api.ListActive, Number: 41, Hard: true, Machine: 41}
	c := api.List{State: api.ListPending, Number: 8192}
	bad := api.List{Number: 1020}
	for _, x := range []struct {
		ls   []api.List
		want api.Errno
	}{
		{nil, api.OK},
		{[]api.List{}, api.OK},
		{[]api.List{a}, api.OK},
		{[]api.List{a, b, c}, api.OK},
		{[]api.List{a, a}, api.ErrList},
		{[]api.List{a, b, a}, api.ErrList},
		{[]api.List{b, c, a, c}, api.ErrList},
		{[]api.List{a, {State: api.ListActive, Number: 40}}, api.ErrList}, // the number alone counts
		{[]api.List{a, {Number: 40}}, api.OK},                             // the second one is free
		{[]api.List{{Number: 40}, a}, api.OK},
		{[]api.List{{Number: 40}, {Number: 40}}, api.OK},
		{[]api.List{{Number: 40}, a, {Number: 40}, a}, api.ErrList},
		{[]api.List{{}, {}, {State: api.ListBoth}}, api.OK}, // the interrupt 0
		{[]api.List{{State: api.ListBoth}, {}, {State: api.ListBoth}}, api.ErrList},
		{[]api.List{bad}, api.ErrList}, // though it is free
		{[]api.List{a, b, bad}, api.ErrList},
		{[]api.List{bad, a, b}, api.ErrList},
		{[]api.List{{State: -1, Number: 40}}, api.ErrList},
		{[]api.List{b, {State: math.MaxInt, Number: 40}}, api.ErrList},
		{make([]api.List, 16), api.OK},
		{make([]api.List, 17), api.ErrArg},
		{make([]api.List, 1000), api.ErrArg},
		{append(make([]api.List, 15), bad), api.ErrList},
		{append(make([]api.List, 16), bad), api.ErrArg}, // the chapter names ErrArg first
		{append([]api.List{bad}, make([]api.List, 16)...), api.ErrArg},
		{append([]api.List{a, a}, make([]api.List, 14)...), api.ErrList},
		{append([]api.List{a, a}, make([]api.List, 15)...), api.ErrArg},
	} {
		if got := lr.Right(x.ls...); got != x.want {
			t.Errorf("Right(%+v): %d, want %d", x.ls, got, x.want)
		}
	}
	if err := lr.Right(); err != api.OK {
		t.Errorf("Right(): %d, want OK", err)
	}
}

func TestRightOfEachTwo(t *testing.T) { // P20.3
	for i := range 16 {
		for k := range i {
			for s := range 16 {
				ls := make([]api.List, 16)
				for j := range ls {
					ls[j] = api.List{State: api.ListPending, Number: 32 + j}
				}
				ls[i].Number = ls[k].Number
				ls[i].State, ls[k].State = api.ListState(s%4), api.ListState(s/4)
				want := api.OK
				if s%4 != 0 && s/4 != 0 {
					want = api.ErrList
				}
				if got := lr.Right(ls...); got != want {
					t.Errorf("Right with two at %d and %d in the states %d and %d: %d, want %d", k, i, s/4, s%4, got, want)
				}
			}
		}
	}
}

func TestWrittenOutTraversals(t *testing.T) { // P20.4
	ls := []api.List{
		{State: api.ListActive, Number: 40, Tell: true},
		{Tell: true},
		{Hard: true},
		{State: api.ListPending, Number: 33, Priority: 16, Tell: true},
		{Hard: true, Tell: true}, // may not be, but is free
		{},
		{State: api.ListBoth, Number: 34},
		{State: 4, Tell: true}, // may not be, but is not free
		{State: -1},
		{State: 5, Number: 33},
		{State: 1<<32 + 1},
		{State: api.ListPending, Number: -7, Priority: 16, Group: -3},
		{Number: 8191, Priority: -1, Group: 9, Machine: 7, Tell: true},
	}
	for i, want := range [][]int{{1, 2, 4, 5, 12}, {1, 12}, {3, 11}} {
		x := traversals()[i]
		if got := slices.Collect(x.of(ls)); !slices.Equal(got, want) {
			t.Errorf("%s: %v, want %v", x.name, got, want)
		}
	}
	if n := lr.Used(ls); n != 8 {
		t.Errorf("Used: %d, want 8", n)
	}
	for number, want := range map[int]int{40: 0, 33: 3, 34: 6, 0: 7, -7: 11, 8191: -1, 41: -1, math.MinInt: -1, math.MaxInt: -1} {
		if got := lr.Find(ls, number); got != want {
			t.Errorf("Find(%d): %d, want %d", number, got, want)
		}
	}
	if c := lr.Best(ls); c != (api.Candidate{ID: -7, Priority: 16, Group: -3, Is: true}) {
		t.Errorf("Best: %v", c)
	}
}

func TestOfNoListRegisters(t *testing.T) { // P20.4
	for _, ls := range [][]api.List{nil, {}, make([]api.List, 4)} {
		several(t, ls)
		if i, n, c := lr.Find(ls, 0), lr.Used(ls), lr.Best(ls); i != -1 || n != 0 || c != (api.Candidate{}) {
			t.Errorf("of %d that are free: Find %d, Used %d, Best %v", len(ls), i, n, c)
		}
	}
}

func TestBits(t *testing.T) { // P20.4
	for _, x := range []struct {
		places []int
		want   uint64
	}{
		{nil, 0},
		{[]int{0}, 1},
		{[]int{63}, 1 << 63},
		{[]int{0, 1, 2, 3}, 15},
		{[]int{5, 3, 5, 3, 5}, 40}, // in any order, and more than once
		{[]int{32, 31, 62}, 1<<32 | 1<<31 | 1<<62},
		{[]int{64}, 0},
		{[]int{-1}, 0},
		{[]int{-1, 4, 64, 65, 128}, 16},
		{[]int{math.MinInt, 7, math.MaxInt, -64, 1 << 32, -1 << 32, 1<<32 + 1, -63}, 128},
	} {
		if got := lr.Bits(slices.Values(x.places)); got != x.want {
			t.Errorf("Bits(%v): %#x, want %#x", x.places, got, x.want)
		}
	}
	all := func(yield func(int) bool) {
		for i := -100; i < 200 && yield(i); i++ {
		}
	}
	if got := lr.Bits(all); got != math.MaxUint64 {
		t.Errorf("Bits of all indices: %#x", got)
	}
}

func TestBest(t *testing.T) { // P20.4
	p := func(number, priority, group int) api.List {
		return api.List{State: api.ListPending, Number: number, Priority: priority, Group: group}
	}
	for _, x := range []struct {
		ls   []api.List
		want api.Candidate
	}{
		{[]api.List{p(40, 160, 0), p(41, 152, 1)}, api.Candidate{ID: 41, Priority: 152, Group: 1, Is: true}},
		{[]api.List{p(41, 152, 1), p(40, 160, 0)}, api.Candidate{ID: 41, Priority: 152, Group: 1, Is: true}},
		{[]api.List{p(41, 160, 1), p(40, 160, 0)}, api.Candidate{ID: 40, Priority: 160, Is: true}},
		{[]api.List{p(40, 160, 1), p(40, 160, 0)}, api.Candidate{ID: 40, Priority: 160, Group: 1, Is: true}}, // the first one
		{[]api.List{p(40, 160, 0), p(40, 160, 1)}, api.Candidate{ID: 40, Priority: 160, Is: true}},
		{[]api.List{p(0, 0, 0)}, api.Candidate{Is: true}},
		{[]api.List{p(8192, 0, 1), p(5, 0, 0)}, api.Candidate{ID: 5, Is: true}},
		{[]api.List{p(5, 255, 1), {}}, api.Candidate{ID: 5, Priority: 255, Group: 1, Is: true}},
		{[]api.List{{}, {State: api.ListBoth, Number: 3}, p(5, 8, 1), {State: api.ListActive}}, api.Candidate{ID: 5, Priority: 8, Group: 1, Is: true}},
		{[]api.List{{State: api.ListBoth, Number: 3}, {State: api.ListActive, Number: 4}}, api.Candidate{}},
		{[]api.List{p(1, -8, 0), p(2, math.MinInt, 7)}, api.Candidate{ID: 2, Priority: math.MinInt, Group: 7, Is: true}},
		{[]api.List{p(1, math.MaxInt, -1), p(math.MinInt, math.MaxInt, 1), p(math.MaxInt, math.MaxInt, 1)},
			api.Candidate{ID: math.MinInt, Priority: math.MaxInt, Group: 1, Is: true}},
		{[]api.List{p(5, 160, 1), {Number: 1, Tell: true}}, api.Candidate{ID: 5, Priority: 160, Group: 1, Is: true}},
		{[]api.List{{State: api.ListPending, Number: 9, Priority: 16, Hard: true, Machine: 3}}, api.Candidate{ID: 9, Priority: 16, Is: true}},
	} {
		if got := lr.Best(x.ls); got != x.want {
			t.Errorf("Best(%+v): %v, want %v", x.ls, got, x.want)
		}
	}
}

func TestRowsOfListRegisters(t *testing.T) { // P20.3, P20.4
	next := roll(2020)
	for k := range 6000 {
		several(t, row(k%20, next, good))
		several(t, row(k%20, next, anyList))
	}
	for range 40 {
		several(t, row(60+next(80), next, anyList)) // more than a number has bits
	}
}

func TestStatesAtTheEnds(t *testing.T) { // P20.4
	for _, s := range ends() {
		for k := range 4 {
			l := api.List{State: api.ListState(s), Number: 40, Priority: 8, Hard: k&1 != 0, Tell: k&2 != 0}
			several(t, []api.List{l})
			several(t, []api.List{{}, l, {State: api.ListPending, Number: 41}, l})
		}
	}
}

func TestNumbersAtTheEnds(t *testing.T) { // P20.4
	for _, i := range ends() {
		for _, k := range ends() {
			several(t, []api.List{
				{State: api.ListPending, Number: i, Priority: k}, {State: api.ListPending, Number: k, Priority: i}, {State: api.ListPending, Number: i, Group: k},
			})
		}
	}
}

func TestLoopsLeftEarlyAndAgain(t *testing.T) { // P20.4, W8
	next := roll(8)
	for range 60 {
		ls := row(12, next, good)
		for _, x := range traversals() {
			s, want := x.of(ls), places(ls, x.is)
			for most := range len(want) {
				var l []int
				for i := range s {
					l = append(l, i)
					if len(l) > most {
						break
					}
				}
				if !slices.Equal(l, want[:most+1]) {
					t.Errorf("%s(%+v), left early: %v, want %v", x.name, ls, l, want[:most+1])
				}
				n := 0
				s(func(int) bool {
					n++
					return n <= most
				})
				if n != most+1 {
					t.Errorf("%s(%+v), left after %d: yields %d times", x.name, ls, most+1, n)
				}
			}
			for range 2 {
				if l := slices.Collect(s); !slices.Equal(l, want) {
					t.Errorf("%s(%+v) again: %v, want %v", x.name, ls, l, want)
				}
			}
		}
	}
}

func TestLoopsWithinOneAnother(t *testing.T) { // P20.4, W8
	ls := row(16, roll(5), good)
	for _, x := range traversals() {
		s, all := x.of(ls), places(ls, x.is)
		var got, want [][2]int
		for i := range s {
			for k := range s {
				got = append(got, [2]int{i, k})
			}
		}
		for _, i := range all {
			for _, k := range all {
				want = append(want, [2]int{i, k})
			}
		}
		if !slices.Equal(got, want) || len(want) == 0 {
			t.Errorf("%s(%+v) within itself: %v, want %v", x.name, ls, got, want)
		}
	}
}

func TestLoopsYieldWhatExistsThen(t *testing.T) { // P20.4, W8: not what existed at the call
	ls := make([]api.List, 3)
	s := []iter.Seq[int]{lr.Free(ls), lr.Done(ls), lr.Waits(ls)}
	for k := range 3 {
		ls[k] = api.List{State: api.ListPending, Number: 32 + k}
		ls[(k+1)%3] = api.List{Tell: true}
		for i, x := range traversals() {
			if got, want := slices.Collect(s[i]), places(ls, x.is); !slices.Equal(got, want) {
				t.Errorf("%s, after the list registers have changed: %v, want %v", x.name, got, want)
			}
		}
	}
}

func TestAnswersDependOnNothingElse(t *testing.T) { // W2, W6: nothing is kept from call to call
	ls := row(10, roll(3), good)
	first := lr.Best(ls)
	was := slices.Clone(ls)
	for i := range ls {
		ls[i] = api.List{State: api.ListPending, Number: 1}
	}
	if c := lr.Best(ls); c.ID != 1 {
		t.Errorf("Best after a change: %v", c)
	}
	if c := lr.Best(was); c != first {
		t.Errorf("Best of the same list registers: %v, was %v", c, first)
	}
}
