package prio_test

import (
	"math"
	"slices"
	"testing"

	"crier/prio"
)

// ends lists numbers on both sides of those that the chapter names, and at both ends of int.
func ends() []int {
	return []int{
		math.MinInt, math.MinInt + 1, math.MinInt + 7, math.MinInt + 8, math.MinInt + 255, math.MinInt + 256, -1 << 32, -257, -256, -255, -249,
		-248, -9, -8, -7, -2, -1, 0, 1, 2, 3, 6, 7, 8, 9, 15, 16, 127, 128, 160, 172, 240, 247, 248, 249, 254, 255, 256, 257, 264, 504, 511, 512,
		1 << 32, 1 << 62, math.MaxInt - 256, math.MaxInt - 255, math.MaxInt - 8, math.MaxInt - 7, math.MaxInt - 1, math.MaxInt,
	}
}

// has reports whether bit k of a number is 1.
func has(n, k int) bool { return uint64(n)>>k&1 == 1 }

// pick returns the number whose bits from first to last are those that which picks; its other bits are 0.
func pick(first, last int, which func(k int) bool) int {
	n := uint64(0)
	for k := first; k <= last; k++ {
		if which(k) {
			n |= 1 << k
		}
	}
	return int(n)
}

// every picks each bit.
func every(int) bool { return true }

// lowest returns the lowest bit that Mask sets, 8 for none.
func lowest(group, point int) int {
	b := pick(0, 2, func(k int) bool { return has(point, k) })
	if group == 0 {
		return b + 1
	}
	if b == 0 {
		return 1
	}
	return b
}

// level returns what Level does, bit by bit.
func level(p, mask int) int {
	return pick(0, 63, func(k int) bool { return has(p, k) && has(mask, k) })
}

// levels returns what Levels yields.
func levels(mask int) []int {
	var l []int
	for k := range 32 {
		l = append(l, level(8*k, mask))
	}
	return slices.Compact(l)
}

// roll returns a source of numbers below a given one, which depend on seed alone.
func roll(seed int) func(n int) int {
	x := uint64(seed)*2 + 1
	return func(n int) int {
		x = x*6364136223846793005 + 1442695040888963407
		return int(x >> 33 % uint64(n))
	}
}

func TestExamples(t *testing.T) { // P6.1 to P6.3
	for _, x := range []struct{ got, want int }{
		{prio.Real(255), 248}, {prio.Mask(0, 3), 240}, {prio.Mask(1, 3), 248}, {prio.Mask(0, 7), 0}, {prio.Mask(1, 0), 254}, {prio.Points(0, 7), 1},
	} {
		if x.got != x.want {
			t.Errorf("%d, want %d", x.got, x.want)
		}
	}
	if !prio.Preempts(172, 168, 240) {
		t.Error("160 does not preempt 168")
	}
	if !prio.Before(8, 5, 8, 6) {
		t.Error("5 is not before 6")
	}
	if l := slices.Collect(prio.Levels(192)); !slices.Equal(l, []int{0, 64, 128, 192}) {
		t.Errorf("Levels: %v", l)
	}
}

func TestReal(t *testing.T) { // P6.1
	for _, x := range []struct{ p, want int }{
		{0, 0}, {1, 0}, {7, 0}, {8, 8}, {9, 8}, {15, 8}, {16, 16}, {32, 32}, {64, 64}, {127, 120}, {128, 128}, {170, 168}, {247, 240}, {248, 248},
		{255, 248}, {256, 0}, {263, 0}, {264, 8}, {511, 248}, {512, 0}, {-1, 248}, {-8, 248}, {-9, 240}, {-248, 8}, {-249, 0}, {-256, 0},
		{math.MinInt, 0}, {math.MinInt + 8, 8}, {math.MaxInt, 248}, {math.MaxInt - 8, 240},
	} {
		if got := prio.Real(x.p); got != x.want {
			t.Errorf("Real(%d): %d, want %d", x.p, got, x.want)
		}
	}
	try := func(p int) {
		want := pick(3, 7, func(k int) bool { return has(p, k) })
		if got := prio.Real(p); got != want {
			t.Errorf("Real(%d): %d, want %d", p, got, want)
		}
	}
	for _, p := range ends() {
		try(p)
	}
	for p := -600; p <= 600; p++ {
		try(p)
	}
}

func TestMask(t *testing.T) { // P6.1
	group0 := []int{254, 252, 248, 240, 224, 192, 128, 0}
	others := []int{254, 254, 252, 248, 240, 224, 192, 128}
	for point := range 8 {
		if got := prio.Mask(0, point); got != group0[point] {
			t.Errorf("Mask(0, %d): %d, want %d", point, got, group0[point])
		}
		for _, group := range []int{1, 2, 3, 7, 8, 256, -1, -2, -256, 1 << 32, math.MinInt, math.MaxInt} {
			if got := prio.Mask(group, point); got != others[point] {
				t.Errorf("Mask(%d, %d): %d, want %d", group, point, got, others[point])
			}
		}
	}
}

func TestMaskTakesThreeBitsOfThePoint(t *testing.T) { // P6.1
	for _, x := range []struct{ group, point, want int }{
		{0, 8, 254}, {1, 8, 254}, {0, 9, 252}, {1, 9, 254}, {0, 15, 0}, {1, 15, 128}, {1, 16, 254}, {0, 256, 254}, {0, -1, 0}, {1, -1, 128},
		{0, -2, 128}, {0, -8, 254}, {1, -8, 254}, {0, math.MinInt, 254}, {1, math.MinInt, 254}, {0, math.MaxInt, 0}, {1, math.MaxInt, 128},
	} {
		if got := prio.Mask(x.group, x.point); got != x.want {
			t.Errorf("Mask(%d, %d): %d, want %d", x.group, x.point, got, x.want)
		}
	}
	for _, group := range ends() {
		for _, point := range ends() {
			if got, want := prio.Mask(group, point), pick(lowest(group, point), 7, every); got != want {
				t.Errorf("Mask(%d, %d): %d, want %d", group, point, got, want)
			}
		}
	}
}

func TestLevel(t *testing.T) { // P6.1
	for _, x := range []struct{ p, mask, want int }{
		{172, 240, 160}, {172, 248, 168}, {172, 0, 0}, {0, 248, 0}, {255, 255, 255}, {255, 7, 7}, {255, 8, 8}, {172, 83, 0}, {256, 256, 256},
		{511, 256, 256}, {511, 248, 248}, {-1, 240, 240}, {240, -1, 240}, {-1, -1, -1}, {-1, -256, -256}, {-256, 255, 0}, {-8, -3, -8},
		{math.MinInt, -1, math.MinInt}, {-1, math.MinInt, math.MinInt}, {math.MinInt, math.MaxInt, 0}, {math.MaxInt, -1, math.MaxInt},
		{math.MaxInt, math.MaxInt - 8, math.MaxInt - 8}, {math.MinInt, math.MinInt, math.MinInt},
	} {
		if got := prio.Level(x.p, x.mask); got != x.want {
			t.Errorf("Level(%d, %d): %d, want %d", x.p, x.mask, got, x.want)
		}
	}
	for _, p := range ends() {
		for _, mask := range ends() {
			if got, want := prio.Level(p, mask), level(p, mask); got != want {
				t.Errorf("Level(%d, %d): %d, want %d", p, mask, got, want)
			}
		}
	}
}

func TestSub(t *testing.T) { // P6.1
	for _, x := range []struct{ p, mask, want int }{
		{172, 240, 12}, {172, 248, 4}, {172, 0, 172}, {172, 255, 0}, {0, 0, 0}, {0, 240, 0}, {255, 0, 255}, {255, 254, 1}, {255, 127, 128},
		{511, 0, 255}, {256, 0, 0}, {257, 0, 1}, {255, 256, 255}, {-1, 0, 255}, {-1, 240, 15}, {-256, 0, 0}, {-255, 0, 1}, {255, -1, 0},
		{255, -256, 255}, {math.MinInt, 0, 0}, {math.MaxInt, 0, 255}, {math.MaxInt, math.MinInt, 255}, {255, math.MaxInt, 0}, {-1, math.MinInt, 255},
	} {
		if got := prio.Sub(x.p, x.mask); got != x.want {
			t.Errorf("Sub(%d, %d): %d, want %d", x.p, x.mask, got, x.want)
		}
	}
	for _, p := range ends() {
		for _, mask := range ends() {
			want := pick(0, 7, func(k int) bool { return has(p, k) && !has(mask, k) })
			if got := prio.Sub(p, mask); got != want {
				t.Errorf("Sub(%d, %d): %d, want %d", p, mask, got, want)
			}
		}
	}
}

func TestPasses(t *testing.T) { // P6.2
	for _, x := range []struct {
		p, mask int
		want    bool
	}{
		{8, 9, true}, {9, 9, false}, {9, 8, false}, {0, 0, false}, {0, 1, true}, {248, 248, false}, {248, 255, true}, {247, 248, true},
		{255, 255, false}, {255, 256, true}, {-1, 0, true}, {0, -1, false}, {-1, -1, false}, {256, 8, false}, {-2, -1, true},
		{math.MinInt, math.MaxInt, true}, {math.MaxInt, math.MinInt, false}, {math.MinInt, math.MinInt, false}, {math.MaxInt, math.MaxInt, false},
		{math.MinInt, math.MinInt + 1, true}, {math.MaxInt - 1, math.MaxInt, true}, {math.MinInt, 1, true}, {1, math.MinInt, false},
	} {
		if got := prio.Passes(x.p, x.mask); got != x.want {
			t.Errorf("Passes(%d, %d): %v", x.p, x.mask, got)
		}
	}
	row := ends() // it increases
	for i, p := range row {
		for k, mask := range row {
			if got := prio.Passes(p, mask); got != (i < k) {
				t.Errorf("Passes(%d, %d): %v", p, mask, got)
			}
		}
	}
}

func TestPreempts(t *testing.T) { // P6.2
	for _, x := range []struct {
		p, running, mask int
		want             bool
	}{
		{172, 168, 240, true}, {172, 168, 248, false}, {168, 168, 248, false}, {167, 168, 248, true}, {168, 169, 248, true}, {172, 160, 240, false},
		{172, 161, 240, true}, {160, 172, 240, true}, {175, 160, 240, false}, {159, 160, 240, true}, {248, 255, 248, true}, {255, 255, 248, true},
		{255, 255, 255, false}, {0, 0, 248, false}, {255, 0, 0, false}, {255, 1, 0, true}, {0, 1, 248, true}, {256, 1, 248, true}, {256, 1, 256, false},
		{-1, 0, -1, true}, {-1, 0, 248, false}, {-1, 0, math.MinInt, true}, {0, -1, 248, false}, {248, math.MaxInt, 248, true},
		{0, math.MinInt, 248, false}, {math.MinInt, math.MinInt, -1, false}, {math.MinInt, math.MaxInt, -1, true},
		{math.MaxInt, math.MinInt, -1, false}, {math.MaxInt, math.MaxInt, -1, false}, {math.MaxInt - 1, math.MaxInt, -1, true},
	} {
		if got := prio.Preempts(x.p, x.running, x.mask); got != x.want {
			t.Errorf("Preempts(%d, %d, %d): %v", x.p, x.running, x.mask, got)
		}
	}
	row := ends()
	for _, p := range row {
		for _, running := range row {
			for _, mask := range row {
				if got, want := prio.Preempts(p, running, mask), level(p, mask) < running; got != want {
					t.Errorf("Preempts(%d, %d, %d): %v", p, running, mask, got)
				}
			}
		}
	}
}

func TestBefore(t *testing.T) { // P6.2
	for _, x := range []struct {
		p, a, q, b int
		want       bool
	}{
		{8, 5, 8, 6, true}, {8, 6, 8, 6, false}, {8, 7, 8, 6, false}, {7, 9, 8, 6, true}, {7, 6, 8, 6, true}, {9, 5, 8, 6, false}, {9, 6, 8, 6, false},
		{8, 9, 9, 1, true}, {9, 1, 8, 9, false}, {0, 0, 0, 0, false}, {0, -1, 0, 0, true}, {-1, 0, 0, -1, true}, {0, -1, -1, 0, false},
		{math.MinInt, math.MaxInt, math.MaxInt, math.MinInt, true}, {math.MaxInt, math.MinInt, math.MinInt, math.MaxInt, false},
		{0, math.MinInt, 0, math.MaxInt, true}, {0, math.MaxInt, 0, math.MinInt, false}, {math.MinInt, 0, math.MinInt, 1, true},
		{math.MaxInt, 1, math.MaxInt, 0, false}, {math.MaxInt, math.MaxInt, math.MaxInt, math.MaxInt, false},
	} {
		if got := prio.Before(x.p, x.a, x.q, x.b); got != x.want {
			t.Errorf("Before(%d, %d, %d, %d): %v", x.p, x.a, x.q, x.b, got)
		}
	}
	row := []int{math.MinInt, math.MinInt + 1, -256, -1, 0, 1, 7, 8, 9, 248, 255, 256, math.MaxInt - 1, math.MaxInt}
	for _, p := range row {
		for _, a := range row {
			for _, q := range row {
				for _, b := range row {
					if got, want := prio.Before(p, a, q, b), slices.Compare([]int{p, a}, []int{q, b}) < 0; got != want {
						t.Errorf("Before(%d, %d, %d, %d): %v", p, a, q, b, got)
					}
				}
			}
		}
	}
}

// steps returns the numbers 0, step, 2 * step and so on up to 248.
func steps(step int) []int {
	var l []int
	for p := 0; p <= 248; p += step {
		l = append(l, p)
	}
	return l
}

func TestLevels(t *testing.T) { // P6.3
	for _, x := range []struct {
		mask int
		want []int
	}{
		{248, steps(8)}, {255, steps(8)}, {254, steps(8)}, {-1, steps(8)}, {-8, steps(8)}, {math.MaxInt, steps(8)}, {504, steps(8)},
		{240, steps(16)}, {247, steps(16)}, {224, steps(32)}, {192, steps(64)}, {199, steps(64)}, {-64, steps(64)}, {128, steps(128)},
		{0, []int{0}}, {1, []int{0}}, {7, []int{0}}, {256, []int{0}}, {-256, []int{0}}, {math.MinInt, []int{0}}, {math.MinInt + 7, []int{0}},
		{math.MinInt + 128, []int{0, 128}},
	} {
		if l := slices.Collect(prio.Levels(x.mask)); !slices.Equal(l, x.want) {
			t.Errorf("Levels(%d): %v, want %v", x.mask, l, x.want)
		}
	}
}

func TestLevelsThatComeAgain(t *testing.T) { // P6.3: only those that follow directly upon an equal one are omitted
	for _, x := range []struct {
		mask int
		want []int
	}{
		{8, slices.Repeat([]int{0, 8}, 16)}, {16, slices.Repeat([]int{0, 16}, 8)}, {32, slices.Repeat([]int{0, 32}, 4)},
		{64, []int{0, 64, 0, 64}}, {160, []int{0, 32, 0, 32, 128, 160, 128, 160}}, {96, []int{0, 32, 64, 96, 0, 32, 64, 96}},
	} {
		if l := slices.Collect(prio.Levels(x.mask)); !slices.Equal(l, x.want) {
			t.Errorf("Levels(%d): %v, want %v", x.mask, l, x.want)
		}
	}
}

func TestLevelsOfEachMask(t *testing.T) { // P6.3
	masks := ends()
	for mask := -300; mask <= 600; mask++ {
		masks = append(masks, mask)
	}
	for _, mask := range masks {
		if l, want := slices.Collect(prio.Levels(mask)), levels(mask); !slices.Equal(l, want) {
			t.Errorf("Levels(%d): %v, want %v", mask, l, want)
		}
	}
}

func TestPoints(t *testing.T) { // P6.3
	group0 := []int{32, 32, 32, 16, 8, 4, 2, 1}
	others := []int{32, 32, 32, 32, 16, 8, 4, 2}
	for point := range 8 {
		for _, p := range []int{point, point + 8, point - 8, point + 1<<32, point + math.MinInt, point + math.MaxInt - 7} {
			if got := prio.Points(0, p); got != group0[point] {
				t.Errorf("Points(0, %d): %d, want %d", p, got, group0[point])
			}
			for _, group := range []int{1, 2, -1, 256, math.MinInt, math.MaxInt} {
				if got := prio.Points(group, p); got != others[point] {
					t.Errorf("Points(%d, %d): %d, want %d", group, p, got, others[point])
				}
			}
		}
	}
	for _, group := range ends() {
		for _, point := range ends() {
			if got, want := prio.Points(group, point), len(levels(pick(lowest(group, point), 7, every))); got != want {
				t.Errorf("Points(%d, %d): %d, want %d", group, point, got, want)
			}
		}
	}
}

func TestLoopsLeftEarlyAndAgain(t *testing.T) { // P6.3, W8
	for _, x := range []struct {
		mask int
		want []int
	}{
		{192, []int{0, 64, 128, 192}}, {64, []int{0, 64, 0, 64}}, {0, []int{0}}, {248, steps(8)},
	} {
		each := prio.Levels(x.mask)
		for n := range x.want {
			var l []int
			for level := range each {
				if l = append(l, level); len(l) > n {
					break
				}
			}
			if !slices.Equal(l, x.want[:n+1]) {
				t.Errorf("Levels(%d), left after %d: %v", x.mask, n+1, l)
			}
		}
		for range 2 {
			if l := slices.Collect(each); !slices.Equal(l, x.want) {
				t.Errorf("Levels(%d), gone through again: %v", x.mask, l)
			}
		}
	}
}

func TestNothingIsYieldedAfterTheLoopIsLeft(t *testing.T) { // P6.3, W8
	for n := 1; n <= 4; n++ {
		calls := 0
		prio.Levels(192)(func(int) bool {
			calls++
			return calls < n
		})
		if calls != n {
			t.Errorf("left after %d: %d calls", n, calls)
		}
	}
}

func TestLoopsWithinOneAnother(t *testing.T) { // P6.3, W8
	one, other := prio.Levels(192), prio.Levels(128)
	var same, two []int
	for a := range one {
		for b := range one {
			same = append(same, 1000*a+b)
		}
		for b := range other {
			two = append(two, 1000*a+b)
		}
	}
	var want, half []int
	for _, a := range []int{0, 64, 128, 192} {
		want = append(want, 1000*a, 1000*a+64, 1000*a+128, 1000*a+192)
		half = append(half, 1000*a, 1000*a+128)
	}
	if !slices.Equal(same, want) {
		t.Errorf("one iterator: %v, want %v", same, want)
	}
	if !slices.Equal(two, half) {
		t.Errorf("two iterators: %v, want %v", two, half)
	}
}

func TestFirst(t *testing.T) { // P6.3
	for _, x := range []struct {
		ps, ids []int
		want    int
	}{
		{[]int{9, 8, 8}, []int{1, 5, 4, 0}, 2}, {[]int{8}, []int{5}, 0}, {[]int{1, 2, 3}, []int{9, 8, 7}, 0}, {[]int{3, 2, 1}, []int{7, 8, 9}, 2},
		{[]int{3, 1, 2}, []int{0, 0, 0}, 1}, {[]int{8, 8, 8}, []int{6, 5, 4}, 2}, {[]int{8, 8, 8}, []int{4, 5, 6}, 0}, {[]int{8, 8, 8}, []int{5, 4, 6}, 1},
		{[]int{15, 8}, []int{1, 2}, 1}, {[]int{9, 8}, []int{1, 2}, 1}, {[]int{256, 255}, []int{1, 2}, 1}, {[]int{0, -1}, []int{-1, 0}, 1},
		{[]int{0, 0}, []int{0, 0}, 0}, {[]int{8, 0}, []int{0, 1023}, 1}, {[]int{255, 255}, []int{1023, 1023}, 0},
	} {
		if got := prio.First(x.ps, x.ids); got != x.want {
			t.Errorf("First(%v, %v): %d, want %d", x.ps, x.ids, got, x.want)
		}
	}
}

func TestFirstOfNone(t *testing.T) { // P6.3
	none := [][]int{nil, {}, make([]int, 0, 4)}
	some := [][]int{{0}, {3, 2, 1}, {math.MinInt}}
	for _, a := range none {
		for _, b := range slices.Concat(none, some) {
			if got := prio.First(a, b); got != -1 {
				t.Errorf("First(%v, %v): %d, want -1", a, b, got)
			}
			if got := prio.First(b, a); got != -1 {
				t.Errorf("First(%v, %v): %d, want -1", b, a, got)
			}
		}
	}
}

func TestFirstOfListsOfTwoLengths(t *testing.T) { // P6.3
	for _, x := range []struct {
		ps, ids []int
		want    int
	}{
		{[]int{3, 2, 1}, []int{0, 0}, 1}, {[]int{3, 2}, []int{0, 0, 0}, 1}, {[]int{3, 2, 1, 0}, []int{5}, 0}, {[]int{3}, []int{5, 4, 3}, 0},
		{[]int{2, 2, 2}, []int{9, 8}, 1}, {[]int{2, 2}, []int{9, 8, 7}, 1}, {[]int{9, 8, 7}[:2], []int{1, 1}, 1}, {[]int{9, 8}, []int{1, 1, 0}[:2], 1},
	} {
		if got := prio.First(x.ps, x.ids); got != x.want {
			t.Errorf("First(%v, %v): %d, want %d", x.ps, x.ids, got, x.want)
		}
	}
}

func TestFirstOfSeveralEqualOnes(t *testing.T) { // P6.3
	ps, ids := []int{9, 8, 7, 7, 8, 7, 7}, []int{1, 1, 6, 5, 1, 5, 5}
	if got := prio.First(ps, ids); got != 3 {
		t.Errorf("First(%v, %v): %d, want 3", ps, ids, got)
	}
	for n := 1; n <= 9; n++ {
		if got := prio.First(slices.Repeat([]int{8}, n), slices.Repeat([]int{5}, n)); got != 0 {
			t.Errorf("First of %d equal ones: %d, want 0", n, got)
		}
	}
}

func TestFirstAtBothEnds(t *testing.T) { // P6.3, W5
	for _, x := range []struct {
		ps, ids []int
		want    int
	}{
		{[]int{math.MaxInt}, []int{math.MaxInt}, 0}, {[]int{math.MinInt}, []int{math.MinInt}, 0}, {[]int{-1, -2}, []int{0, 0}, 1},
		{[]int{math.MaxInt, math.MinInt}, []int{0, 0}, 1}, {[]int{math.MinInt, math.MaxInt}, []int{0, 0}, 0},
		{[]int{0, 0}, []int{math.MaxInt, math.MinInt}, 1}, {[]int{0, 0}, []int{math.MinInt, math.MaxInt}, 0},
		{[]int{math.MaxInt, math.MaxInt - 1}, []int{math.MinInt, math.MaxInt}, 1}, {[]int{math.MaxInt, math.MaxInt}, []int{math.MaxInt, math.MaxInt}, 0},
		{[]int{math.MaxInt, math.MaxInt}, []int{math.MaxInt, math.MaxInt - 1}, 1}, {[]int{math.MinInt, math.MinInt}, []int{1, 0}, 1},
	} {
		if got := prio.First(x.ps, x.ids); got != x.want {
			t.Errorf("First(%v, %v): %d, want %d", x.ps, x.ids, got, x.want)
		}
	}
}

func TestFirstLeavesTheListsAlone(t *testing.T) { // P6.3, W6
	ps, ids := []int{9, 8, 8, 10}, []int{1, 5, 4, 0}
	for range 2 {
		if got := prio.First(ps[:3], ids); got != 2 {
			t.Errorf("First: %d, want 2", got)
		}
		if !slices.Equal(ps, []int{9, 8, 8, 10}) || !slices.Equal(ids, []int{1, 5, 4, 0}) {
			t.Errorf("changed: %v, %v", ps, ids)
		}
	}
	ps[0] = 7
	if got := prio.First(ps, ids); got != 0 {
		t.Errorf("First after a change: %d, want 0", got)
	}
}

// first returns what First does, by sorting.
func first(ps, ids []int) int {
	var l []int
	for i := range min(len(ps), len(ids)) {
		l = append(l, i)
	}
	if len(l) == 0 {
		return -1
	}
	slices.SortStableFunc(l, func(i, k int) int { return slices.Compare([]int{ps[i], ids[i]}, []int{ps[k], ids[k]}) })
	return l[0]
}

func TestFirstAgainstSorting(t *testing.T) { // P6.3
	next := roll(6)
	row := ends()
	for round := range 4000 {
		from := row
		if round%2 == 0 {
			from = []int{0, 1, 7, 8} // few numbers, so that many are equal
		}
		ps, ids := make([]int, next(12)), make([]int, next(12))
		for i := range ps {
			ps[i] = from[next(len(from))]
		}
		for i := range ids {
			ids[i] = from[next(len(from))]
		}
		if got, want := prio.First(ps, ids), first(ps, ids); got != want {
			t.Fatalf("First(%v, %v): %d, want %d", ps, ids, got, want)
		}
	}
}
