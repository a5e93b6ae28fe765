package ladder_test

import (
	"math"
	"slices"
	"testing"

	"crier/api"
	"crier/ladder"
)

// pair is what All yields at once.
type pair struct{ p, group int }

// ends lists priorities and groups on both sides of those that the chapter names, and at both ends of int.
func ends() []int {
	return []int{
		math.MinInt, math.MinInt + 1, math.MinInt + 7, math.MinInt + 8, math.MinInt + 255, math.MinInt + 256, -1 << 32, -257, -256, -255, -249,
		-248, -9, -8, -7, -2, -1, 0, 1, 2, 3, 6, 7, 8, 9, 15, 16, 127, 128, 160, 167, 168, 240, 247, 248, 249, 254, 255, 256, 257, 264, 504, 511,
		512, 1 << 32, 1<<32 + 1, 1 << 62, math.MaxInt - 256, math.MaxInt - 255, math.MaxInt - 8, math.MaxInt - 7, math.MaxInt - 1, math.MaxInt,
	}
}

// some lists ladders with nothing, little, much and everything running.
func some() []ladder.Ladder {
	all := uint32(math.MaxUint32)
	return []ladder.Ladder{
		{}, {Bits: [2]uint32{1, 0}}, {Bits: [2]uint32{0, 1}}, {Bits: [2]uint32{1, 1}}, {Bits: [2]uint32{1 << 31, 0}}, {Bits: [2]uint32{0, 1 << 31}},
		{Bits: [2]uint32{1 << 31, 1 << 31}}, {Bits: [2]uint32{2, 1 << 20}}, {Bits: [2]uint32{1 << 20, 2}}, {Bits: [2]uint32{0x55555555, 0xaaaaaaaa}},
		{Bits: [2]uint32{0xaaaaaaaa, 0x55555555}}, {Bits: [2]uint32{0x80000001, 0x00018000}}, {Bits: [2]uint32{0xdeadbeef, 0x12345678}},
		{Bits: [2]uint32{all, 0}}, {Bits: [2]uint32{0, all}}, {Bits: [2]uint32{all, 1}}, {Bits: [2]uint32{1, all}}, {Bits: [2]uint32{all, all}},
	}
}

// stands returns what a group and a priority that are passed stand for, bit by bit.
func stands(group, p int) pair {
	var x pair
	if uint64(group)%2 == 1 {
		x.group = 1
	}
	for k := 3; k <= 7; k++ {
		if uint64(p)>>k%2 == 1 {
			x.p += 1 << k
		}
	}
	return x
}

// running returns what is running in a ladder, by its bits.
func running(l ladder.Ladder) []pair {
	var row []pair
	for k := range 32 {
		for group := range 2 {
			if l.Bits[group]>>k%2 == 1 {
				row = append(row, pair{8 * k, group})
			}
		}
	}
	return row
}

// holding returns the ladder in which certain pairs are running, and nothing else.
func holding(row []pair) ladder.Ladder {
	var l ladder.Ladder
	for _, x := range row {
		l.Bits[x.group] |= 1 << (x.p / 8)
	}
	return l
}

// only returns the priorities of one group in a row of pairs.
func only(row []pair, group int) []int {
	var ps []int
	for _, x := range row {
		if x.group == group {
			ps = append(ps, x.p)
		}
	}
	return ps
}

// yielded returns what All yields.
func yielded(l ladder.Ladder) []pair {
	var row []pair
	for p, group := range l.All() {
		row = append(row, pair{p, group})
	}
	return row
}

// holds reports each query of a ladder that is at variance with what should be running.
func holds(t *testing.T, l ladder.Ladder, row []pair) {
	t.Helper()
	if l != holding(row) {
		t.Fatalf("bits %x, want %x", l.Bits, holding(row).Bits)
	}
	if got := yielded(l); !slices.Equal(got, row) {
		t.Errorf("%x: All: %v, want %v", l.Bits, got, row)
	}
	for group := -1; group <= 2; group++ {
		if got, want := slices.Collect(l.Only(group)), only(row, group); !slices.Equal(got, want) {
			t.Errorf("%x: Only(%d): %v, want %v", l.Bits, group, got, want)
		}
	}
	if got := l.Len(); got != len(row) {
		t.Errorf("%x: Len: %d, want %d", l.Bits, got, len(row))
	}
	first, rest := pair{255, 0}, l
	if len(row) > 0 {
		first, rest = row[0], holding(row[1:])
	}
	if p, group := l.Running(); (pair{p, group}) != first {
		t.Errorf("%x: Running: %d, %d, want %v", l.Bits, p, group, first)
	}
	if got, is := l.Drop(); got != rest || is != (len(row) > 0) {
		t.Errorf("%x: Drop: %x, %v, want %x", l.Bits, got.Bits, is, rest.Bits)
	}
}

// roll returns a source of numbers below a given one, which depend on seed alone.
func roll(seed int) func(n int) int {
	x := uint64(seed)*2 + 1
	return func(n int) int {
		x = x*6364136223846793005 + 1442695040888963407
		return int(x >> 33 % uint64(n))
	}
}

func TestExamples(t *testing.T) { // P8.1, P8.2
	var l ladder.Ladder
	l = l.Push(1, 160).Push(0, 8)
	if p, group := l.Running(); p != 8 || group != 0 {
		t.Errorf("Running: %d, %d", p, group)
	}
	if got := yielded(l); !slices.Equal(got, []pair{{8, 0}, {160, 1}}) {
		t.Errorf("All: %v", got)
	}
	l, is := l.Drop()
	if p, group := l.Running(); !is || p != 160 || group != 1 {
		t.Errorf("after Drop: %v, %d, %d", is, p, group)
	}
	l, is = l.Drop()
	if p, group := l.Running(); !is || p != api.Idle || group != 0 {
		t.Errorf("after Drop again: %v, %d, %d", is, p, group)
	}
	if n := ladder.Of(1, 3).Len(); n != 3 {
		t.Errorf("Len: %d", n)
	}
}

func TestEachPair(t *testing.T) { // P8.1, P8.2
	for group := range 2 {
		for k := range 32 {
			row := []pair{{8 * k, group}}
			one := ladder.Ladder{}.Push(group, 8*k)
			if one.Bits[group] != 1<<k || one.Bits[1-group] != 0 {
				t.Errorf("Push(%d, %d): bits %x", group, 8*k, one.Bits)
			}
			holds(t, one, row)
			holds(t, one.Push(group, 8*k), row)
			holds(t, one.Clear(group, 8*k), nil)
			holds(t, one.Clear(1-group, 8*k), row)
			for other := range 32 {
				if got, want := one.Has(group, 8*other), other == k; got != want {
					t.Errorf("Push(%d, %d): Has(%d): %v", group, 8*k, 8*other, got)
				}
				if one.Has(1-group, 8*other) {
					t.Errorf("Push(%d, %d): %d is running in the other group", group, 8*k, 8*other)
				}
			}
		}
	}
}

func TestPushOfWrittenOutNumbers(t *testing.T) { // P8.1
	for _, x := range []struct {
		group, p int
		want     ladder.Ladder
	}{
		{0, 7, ladder.Of(1)}, {0, 8, ladder.Of(2)}, {0, 15, ladder.Of(2)}, {1, 167, ladder.Of(0, 1<<20)}, {1, 168, ladder.Of(0, 1<<21)},
		{1, 248, ladder.Of(0, 1<<31)}, {1, 255, ladder.Of(0, 1<<31)}, {0, 256, ladder.Of(1)}, {0, 264, ladder.Of(2)}, {0, 511, ladder.Of(1 << 31)},
		{0, -1, ladder.Of(1 << 31)}, {0, -8, ladder.Of(1 << 31)}, {0, -9, ladder.Of(1 << 30)}, {0, -249, ladder.Of(1)}, {0, -248, ladder.Of(2)},
		{0, -256, ladder.Of(1)}, {0, -257, ladder.Of(1 << 31)}, {0, math.MinInt, ladder.Of(1)}, {0, math.MinInt + 8, ladder.Of(2)},
		{0, math.MaxInt, ladder.Of(1 << 31)}, {0, math.MaxInt - 8, ladder.Of(1 << 30)}, {2, 8, ladder.Of(2)}, {3, 8, ladder.Of(0, 2)},
		{-1, 8, ladder.Of(0, 2)}, {-2, 8, ladder.Of(2)}, {-3, 8, ladder.Of(0, 2)}, {256, 8, ladder.Of(2)}, {257, 8, ladder.Of(0, 2)},
		{math.MinInt, 8, ladder.Of(2)}, {math.MinInt + 1, 8, ladder.Of(0, 2)}, {math.MaxInt, 8, ladder.Of(0, 2)}, {math.MaxInt - 1, 8, ladder.Of(2)},
		{math.MaxInt, math.MinInt, ladder.Of(0, 1)}, {math.MinInt, math.MaxInt, ladder.Of(1 << 31)}, {-1, -1, ladder.Of(0, 1<<31)},
	} {
		if got := (ladder.Ladder{}).Push(x.group, x.p); got != x.want {
			t.Errorf("Push(%d, %d): bits %x, want %x", x.group, x.p, got.Bits, x.want.Bits)
		}
		if !x.want.Has(x.group, x.p) {
			t.Errorf("%x: Has(%d, %d): false", x.want.Bits, x.group, x.p)
		}
		if got := x.want.Clear(x.group, x.p); got != (ladder.Ladder{}) {
			t.Errorf("%x: Clear(%d, %d): bits %x", x.want.Bits, x.group, x.p, got.Bits)
		}
	}
}

func TestChangesAndQueriesWithNumbersAtTheEnds(t *testing.T) { // P8.1
	for _, l := range some() {
		for _, group := range ends() {
			for _, p := range ends() {
				x, bits := stands(group, p), l.Bits
				with, without := bits, bits
				with[x.group] |= 1 << (x.p / 8)
				without[x.group] &^= 1 << (x.p / 8)
				if got := l.Push(group, p); got.Bits != with {
					t.Errorf("%x: Push(%d, %d): %x, want %x", bits, group, p, got.Bits, with)
				}
				if got := l.Clear(group, p); got.Bits != without {
					t.Errorf("%x: Clear(%d, %d): %x, want %x", bits, group, p, got.Bits, without)
				}
				if got, want := l.Has(group, p), slices.Contains(running(l), x); got != want {
					t.Errorf("%x: Has(%d, %d): %v", bits, group, p, got)
				}
			}
		}
	}
}

func TestHasOfEachPriority(t *testing.T) { // P8.1
	l := ladder.Of(0x80000002, 0x00100001)
	for p := -600; p <= 600; p++ {
		k := (p%256 + 256) % 256 / 8
		if got, want := l.Has(0, p), k == 1 || k == 31; got != want {
			t.Errorf("Has(0, %d): %v", p, got)
		}
		if got, want := l.Has(1, p), k == 0 || k == 20; got != want {
			t.Errorf("Has(1, %d): %v", p, got)
		}
	}
}

func TestAnotherLadderIsReturned(t *testing.T) { // P8.1, P8.2, W6
	for _, l := range some() {
		before := l
		l.Push(0, 8)
		l.Push(1, 160)
		l.Clear(0, 0)
		l.Clear(1, 248)
		l.Drop()
		if l != before {
			t.Errorf("%x has become %x", before.Bits, l.Bits)
		}
		for range 2 {
			if got, want := l.Push(1, 160), holding(append(running(before), pair{160, 1})); got != want {
				t.Errorf("%x: Push: %x", before.Bits, got.Bits)
			}
		}
	}
	one := ladder.Of(2)
	two := one.Push(1, 0)
	two.Bits[0] = 4
	if one != ladder.Of(2) {
		t.Errorf("the ladder that Push returned shares bits: %x", one.Bits)
	}
}

func TestOf(t *testing.T) { // P8.1
	for _, x := range []struct {
		words []uint32
		want  [2]uint32
	}{
		{nil, [2]uint32{}}, {[]uint32{}, [2]uint32{}}, {make([]uint32, 0, 4), [2]uint32{}}, {[]uint32{5}, [2]uint32{5, 0}}, {[]uint32{0}, [2]uint32{}},
		{[]uint32{0, 6}, [2]uint32{0, 6}}, {[]uint32{5, 6}, [2]uint32{5, 6}}, {[]uint32{5, 6, 7}, [2]uint32{5, 6}},
		{[]uint32{0, 0, 7, 8}, [2]uint32{}}, {[]uint32{math.MaxUint32, math.MaxUint32, 1}, [2]uint32{math.MaxUint32, math.MaxUint32}},
		{make([]uint32, 100000), [2]uint32{}},
	} {
		given := slices.Clone(x.words)
		l := ladder.Of(given...)
		if l.Bits != x.want {
			t.Errorf("Of(%x): %x, want %x", x.words, l.Bits, x.want)
		}
		if !slices.Equal(given, x.words) {
			t.Errorf("Of has changed its words to %x", given)
		}
		for i := range given {
			given[i] = ^given[i]
		}
		if l.Bits != x.want {
			t.Errorf("Of keeps its words: %x, want %x", l.Bits, x.want)
		}
	}
	// The words that follow those that are passed are not missing ones of the call.
	if l := ladder.Of([]uint32{1, 2, 3}[:1]...); l.Bits != [2]uint32{1, 0} {
		t.Errorf("Of one word of three: %x", l.Bits)
	}
	if l := ladder.Of(); l != (ladder.Ladder{}) {
		t.Errorf("Of no words: %x", l.Bits)
	}
}

func TestTraversal(t *testing.T) { // P8.2
	for _, l := range some() {
		holds(t, l, running(l))
	}
}

func TestWrittenOutTraversals(t *testing.T) { // P8.2
	for _, x := range []struct {
		l    ladder.Ladder
		want []pair
	}{
		{ladder.Of(), nil}, {ladder.Of(1), []pair{{0, 0}}}, {ladder.Of(0, 1), []pair{{0, 1}}}, {ladder.Of(1, 1), []pair{{0, 0}, {0, 1}}},
		{ladder.Of(2, 1), []pair{{0, 1}, {8, 0}}}, {ladder.Of(1, 2), []pair{{0, 0}, {8, 1}}}, {ladder.Of(1, 3), []pair{{0, 0}, {0, 1}, {8, 1}}},
		{ladder.Of(3, 6), []pair{{0, 0}, {8, 0}, {8, 1}, {16, 1}}}, {ladder.Of(1<<31, 1<<31), []pair{{248, 0}, {248, 1}}},
		{ladder.Of(1<<31, 1), []pair{{0, 1}, {248, 0}}}, {ladder.Of(1<<20|1<<21, 1<<20), []pair{{160, 0}, {160, 1}, {168, 0}}},
	} {
		holds(t, x.l, x.want)
	}
}

func TestOnlyOfOtherGroups(t *testing.T) { // P8.2: no bit is taken here, unlike in Push, Clear and Has
	for _, l := range some() {
		for _, group := range ends() {
			if group == 0 || group == 1 {
				continue
			}
			for p := range l.Only(group) {
				t.Errorf("%x: Only(%d) yields %d", l.Bits, group, p)
			}
		}
	}
}

func TestDropUntilNothingIsRunning(t *testing.T) { // P8.2
	for _, start := range some() {
		l, row := start, running(start)
		for len(row) > 0 {
			holds(t, l, row)
			next, is := l.Drop()
			if !is {
				t.Fatalf("%x: nothing is dropped", l.Bits)
			}
			l, row = next, row[1:]
		}
		for range 2 {
			holds(t, l, nil)
			next, is := l.Drop()
			if is || next != l {
				t.Errorf("Drop where nothing is running: %x, %v", next.Bits, is)
			}
			l = next
		}
		if p, group := l.Running(); p != api.Idle || group != 0 {
			t.Errorf("Running where nothing is: %d, %d", p, group)
		}
	}
}

func TestEverythingRunning(t *testing.T) { // P8.1, P8.2
	var l ladder.Ladder
	for p := 255; p >= 0; p-- {
		l = l.Push(1, p).Push(0, p)
	}
	if l.Bits != [2]uint32{math.MaxUint32, math.MaxUint32} || l.Len() != 64 {
		t.Errorf("bits %x, Len %d", l.Bits, l.Len())
	}
	for p := range 256 {
		l = l.Clear(0, p)
	}
	if l.Bits != [2]uint32{0, math.MaxUint32} || l.Len() != 32 {
		t.Errorf("bits %x, Len %d", l.Bits, l.Len())
	}
	if p, group := l.Running(); p != 0 || group != 1 {
		t.Errorf("Running: %d, %d", p, group)
	}
}

func TestLoopsLeftEarlyAndAgain(t *testing.T) { // P8.2, W8
	for _, l := range some() {
		all, row := l.All(), running(l)
		for n := range row {
			var got []pair
			for p, group := range all {
				if got = append(got, pair{p, group}); len(got) > n {
					break
				}
			}
			if !slices.Equal(got, row[:n+1]) {
				t.Errorf("%x: All, left after %d: %v", l.Bits, n+1, got)
			}
		}
		for group := range 2 {
			each, ps := l.Only(group), only(row, group)
			for n := range ps {
				var got []int
				for p := range each {
					if got = append(got, p); len(got) > n {
						break
					}
				}
				if !slices.Equal(got, ps[:n+1]) {
					t.Errorf("%x: Only(%d), left after %d: %v", l.Bits, group, n+1, got)
				}
			}
			for range 2 {
				if got := slices.Collect(each); !slices.Equal(got, ps) {
					t.Errorf("%x: Only(%d), gone through again: %v", l.Bits, group, got)
				}
			}
		}
		for range 2 {
			var got []pair
			for p, group := range all {
				got = append(got, pair{p, group})
			}
			if !slices.Equal(got, row) {
				t.Errorf("%x: All, gone through again: %v", l.Bits, got)
			}
		}
	}
}

func TestNothingIsYieldedAfterTheLoopIsLeft(t *testing.T) { // P8.2, W8
	l := ladder.Of(7, 7)
	for n := 1; n <= 6; n++ {
		calls := 0
		l.All()(func(int, int) bool {
			calls++
			return calls < n
		})
		if calls != n {
			t.Errorf("All, left after %d: %d calls", n, calls)
		}
	}
	for n := 1; n <= 3; n++ {
		for group := range 2 {
			calls := 0
			l.Only(group)(func(int) bool {
				calls++
				return calls < n
			})
			if calls != n {
				t.Errorf("Only(%d), left after %d: %d calls", group, n, calls)
			}
		}
	}
}

func TestLoopsWithinOneAnother(t *testing.T) { // P8.2, W8
	l := ladder.Of(2, 3)
	all, each := l.All(), l.Only(1)
	var same, two, ones []int
	for p, group := range all {
		for q, other := range all {
			same = append(same, 1000*(p+group)+q+other)
		}
		for q := range each {
			two = append(two, 1000*(p+group)+q)
		}
	}
	for p := range each {
		for q := range each {
			ones = append(ones, 1000*p+q)
		}
	}
	if want := []int{1001, 1008, 1009, 8001, 8008, 8009, 9001, 9008, 9009}; !slices.Equal(same, want) {
		t.Errorf("All within All: %v, want %v", same, want)
	}
	if want := []int{1000, 1008, 8000, 8008, 9000, 9008}; !slices.Equal(two, want) {
		t.Errorf("Only within All: %v, want %v", two, want)
	}
	if want := []int{0, 8, 8000, 8008}; !slices.Equal(ones, want) {
		t.Errorf("Only within Only: %v, want %v", ones, want)
	}
}

func TestIteratorsKeepTheirLadder(t *testing.T) { // P8.2: a ladder is a value, so what was changed is another one
	l := ladder.Of(2, 1<<20)
	all, each := l.All(), l.Only(1)
	l = l.Clear(1, 160).Push(0, 0)
	l.Bits[1] = 1
	var got []pair
	for p, group := range all {
		l, _ = l.Drop()
		got = append(got, pair{p, group})
	}
	if !slices.Equal(got, []pair{{8, 0}, {160, 1}}) {
		t.Errorf("All: %v", got)
	}
	if got := slices.Collect(each); !slices.Equal(got, []int{160}) {
		t.Errorf("Only: %v", got)
	}
}

func TestManyChanges(t *testing.T) { // P8.1, P8.2
	next := roll(8)
	numbers := ends()
	var l ladder.Ladder
	var model [2][32]bool
	for range 20000 {
		group, p := next(2), next(256)
		if next(4) == 0 {
			group, p = numbers[next(len(numbers))], numbers[next(len(numbers))]
		}
		x := stands(group, p)
		switch next(5) {
		case 0, 1:
			l, model[x.group][x.p/8] = l.Push(group, p), true
		case 2, 3:
			l, model[x.group][x.p/8] = l.Clear(group, p), false
		case 4:
			if first, of := l.Running(); first != api.Idle {
				model[of][first/8] = false
			}
			l, _ = l.Drop()
		}
		var row []pair
		for k := range 32 {
			for of := range 2 {
				if model[of][k] {
					row = append(row, pair{8 * k, of})
				}
			}
		}
		holds(t, l, row)
		if l.Has(group, p) != model[x.group][x.p/8] {
			t.Fatalf("%x: Has(%d, %d): %v", l.Bits, group, p, l.Has(group, p))
		}
	}
}
