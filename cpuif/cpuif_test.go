package cpuif_test

import (
	"math"
	"slices"
	"testing"

	"crier/api"
	"crier/cpuif"
	"crier/ladder"
)

func TestExamples(t *testing.T) { // P14.1 to P14.4
	f := cpuif.New()
	f.Mask, f.On = 248, [2]bool{true, true}
	if id, is := f.Take(api.Candidate{ID: 40, Priority: 160, Group: 1, Is: true}, 1); id != 40 || !is {
		t.Errorf("Take: %d, %v", id, is)
	}
	if p, group := f.Running(); p != 160 || group != 1 {
		t.Errorf("Running: %d, %d", p, group)
	}
	if f.May(api.Candidate{ID: 41, Priority: 168, Group: 1, Is: true}) {
		t.Error("May of priority 168")
	}
	if !f.May(api.Candidate{ID: 41, Priority: 152, Group: 1, Is: true}) {
		t.Error("not May of priority 152")
	}
	if f.Drop(0) {
		t.Error("Drop(0)")
	}
	if !f.Drop(1) {
		t.Error("not Drop(1)")
	}
	if p, group := f.Running(); p != api.Idle || group != 0 {
		t.Errorf("Running after Drop: %d, %d", p, group)
	}
	if !f.Write(api.Bpr1, 0) {
		t.Error("Write(Bpr1)")
	}
	if v, is := f.Read(api.Bpr1); v != 1 || !is {
		t.Errorf("Read(Bpr1): %d, %v", v, is)
	}
}

func TestNew(t *testing.T) { // P14.1
	f := cpuif.New()
	if f != (cpuif.If{}) {
		t.Errorf("New: %v", f)
	}
	holds(t, f, &model{})
	if f.May(api.Candidate{Priority: -1, Is: true}) {
		t.Error("something comes through a new interface")
	}
	f.Write(api.Pmr, 255)
	if f = cpuif.New(); f.Mask != 0 {
		t.Errorf("New is not new: %v", f)
	}
}

func TestRunningAndDepth(t *testing.T) { // P14.1
	for _, x := range []struct {
		runs         ladder.Ladder
		p, group, in int
	}{
		{ladder.Of(), 255, 0, 0}, {ladder.Of(1), 0, 0, 1}, {ladder.Of(0, 1), 0, 1, 1}, {ladder.Of(1, 1), 0, 0, 2}, {ladder.Of(2, 1), 0, 1, 2},
		{ladder.Of(0, 1<<20), 160, 1, 1}, {ladder.Of(1<<21, 1<<20), 160, 1, 2}, {ladder.Of(1<<20, 1<<20), 160, 0, 2}, {ladder.Of(1<<31, 1<<31), 248, 0, 2},
		{ladder.Of(1<<31, 1<<31|1<<30), 240, 1, 3}, {ladder.Of(math.MaxUint32, math.MaxUint32), 0, 0, 64}, {ladder.Of(0, math.MaxUint32), 0, 1, 32},
	} {
		f := cpuif.If{Runs: x.runs}
		if p, group := f.Running(); p != x.p || group != x.group {
			t.Errorf("%x: Running: %d, %d", x.runs.Bits, p, group)
		}
		if n := f.Depth(); n != x.in {
			t.Errorf("%x: Depth: %d", x.runs.Bits, n)
		}
	}
	for _, f := range some() {
		holds(t, f, modelOf(f))
	}
}

func TestMayAsksForEachCondition(t *testing.T) { // P14.1
	f := open(ladder.Of(0, 1<<20))
	c := api.Candidate{ID: 40, Priority: 152, Group: 1, Is: true}
	if !f.May(c) {
		t.Fatal("nothing comes through")
	}
	none := c
	none.Is = false
	if f.May(none) {
		t.Error("what is not comes through")
	}
	off := f
	off.On[1] = false
	if off.May(c) {
		t.Error("a group that is off comes through")
	}
	off.On = [2]bool{false, true}
	if !off.May(c) {
		t.Error("the other group is off, so this one does not come through")
	}
	for mask, want := range map[int]bool{0: false, 151: false, 152: false, 153: true, 160: true, math.MinInt: false, math.MaxInt: true} {
		masked := f
		masked.Mask = mask
		if masked.May(c) != want {
			t.Errorf("Mask %d: %v", mask, !want)
		}
	}
	for p, want := range map[int]bool{0: true, 152: true, 159: true, 160: false, 161: false, 168: false, 247: false} {
		if c.Priority = p; f.May(c) != want {
			t.Errorf("priority %d while 160 is running: %v", p, !want)
		}
	}
}

func TestMayByLevels(t *testing.T) { // P14.1
	for _, x := range []struct {
		point        [2]int
		runs         ladder.Ladder
		group, limit int // the least of the priorities 0, 8, 16 and so on up to 240 that does not come through
	}{
		{[2]int{0, 0}, ladder.Of(), 0, 248}, {[2]int{7, 7}, ladder.Of(), 0, 248}, {[2]int{7, 7}, ladder.Of(), 1, 248},
		{[2]int{0, 0}, ladder.Of(1 << 20), 0, 160}, {[2]int{0, 0}, ladder.Of(1 << 20), 1, 160}, {[2]int{0, 0}, ladder.Of(0, 1<<20), 0, 160},
		{[2]int{2, 0}, ladder.Of(1 << 21), 0, 168}, {[2]int{3, 0}, ladder.Of(1 << 21), 0, 176}, {[2]int{3, 0}, ladder.Of(1 << 21), 1, 168},
		{[2]int{0, 3}, ladder.Of(1 << 21), 0, 168}, {[2]int{0, 3}, ladder.Of(1 << 21), 1, 168}, {[2]int{0, 4}, ladder.Of(1 << 21), 1, 176},
		{[2]int{0, 4}, ladder.Of(1 << 21), 0, 168}, {[2]int{4, 0}, ladder.Of(1 << 21), 0, 192}, {[2]int{0, 7}, ladder.Of(0, 1<<21), 1, 248},
		{[2]int{0, 7}, ladder.Of(0, 1<<16), 1, 128}, {[2]int{6, 0}, ladder.Of(1 << 16), 0, 128}, {[2]int{7, 0}, ladder.Of(1), 0, 0},
		{[2]int{7, 0}, ladder.Of(2), 0, 248}, {[2]int{7, 0}, ladder.Of(1), 1, 0}, {[2]int{7, 0}, ladder.Of(1<<31, 1<<5), 1, 40},
		{[2]int{15, 0}, ladder.Of(1 << 31), 0, 248}, {[2]int{11, 0}, ladder.Of(1 << 21), 0, 176}, {[2]int{-1, 0}, ladder.Of(1 << 31), 0, 248},
		{[2]int{3, 4}, ladder.Of(1 << 21), 2, 176}, {[2]int{3, 0}, ladder.Of(1 << 21), 3, 168}, {[2]int{3, 0}, ladder.Of(1 << 21), -1, 168},
		{[2]int{3, 0}, ladder.Of(1 << 21), -2, 176}, {[2]int{0, 4}, ladder.Of(1 << 21), math.MaxInt, 176},
		{[2]int{3, 0}, ladder.Of(1 << 21), math.MinInt, 176},
	} {
		f := open(x.runs)
		f.Point = x.point
		for p := 0; p < 248; p += 8 {
			c := api.Candidate{ID: 40, Priority: p, Group: x.group, Is: true}
			if got, want := f.May(c), p < x.limit; got != want {
				t.Errorf("%v: May of priority %d, group %d: %v", f, p, x.group, got)
			}
		}
	}
}

func TestMayOfOtherGroups(t *testing.T) { // P14.1: bit 0 of the group finds the switch and the point
	for group, index := range map[int]int{
		0: 0, 1: 1, 2: 0, 3: 1, -1: 1, -2: 0, 256: 0, 257: 1, math.MinInt: 0, math.MinInt + 1: 1, math.MaxInt - 1: 0, math.MaxInt: 1,
	} {
		f := cpuif.If{Mask: 248}
		c := api.Candidate{ID: 40, Priority: 160, Group: group, Is: true}
		f.On[1-index] = true
		if f.May(c) {
			t.Errorf("group %d comes through by the switch of group %d", group, 1-index)
		}
		f.On = [2]bool{index == 0, index == 1}
		if !f.May(c) {
			t.Errorf("group %d does not come through", group)
		}
		f.Runs = ladder.Of(0, 1<<21)
		f.Point[index] = 6
		if c.Priority = 176; !f.May(c) {
			t.Errorf("group %d does not come through by its point", group)
		}
		f.Point[0], f.Point[1] = f.Point[1], f.Point[0]
		if f.May(c) {
			t.Errorf("group %d comes through by the point of group %d", group, 1-index)
		}
	}
}

func TestMayWithNumbersAtTheEnds(t *testing.T) { // P14.1
	for _, f := range some() {
		m := modelOf(f)
		for _, c := range many() {
			if got, want := f.May(c), m.may(c); got != want {
				t.Errorf("%v: May(%v): %v", f, c, got)
			}
		}
		if f != m.face() {
			t.Errorf("May has changed the interface to %v", f)
		}
	}
}

func TestThrough(t *testing.T) { // P14.1
	f := open(ladder.Of(0, 1<<20))
	for _, x := range []struct {
		cs   []api.Candidate
		want int // which one comes first, -1 for none
	}{
		{nil, -1}, {[]api.Candidate{}, -1}, {[]api.Candidate{{}}, -1}, {[]api.Candidate{{}, {}}, -1}, {[]api.Candidate{at(40, 160, 1)}, -1},
		{[]api.Candidate{at(40, 152, 1)}, 0}, {[]api.Candidate{at(40, 152, 1), at(40, 144, 1)}, 1}, {[]api.Candidate{at(40, 144, 1), at(40, 152, 1)}, 0},
		{[]api.Candidate{at(41, 8, 1), at(40, 8, 1), at(42, 8, 1)}, 1}, {[]api.Candidate{at(40, 16, 1), at(41, 8, 1)}, 1},
		{[]api.Candidate{at(41, 8, 1), at(40, 16, 1)}, 0}, {[]api.Candidate{{ID: 1, Priority: 0, Group: 1}, at(40, 8, 1)}, 1},
		{[]api.Candidate{at(40, 8, 1), {ID: 1, Priority: 0, Group: 1}}, 0}, {[]api.Candidate{at(40, 160, 1), at(50, 152, 1), at(30, 168, 0)}, 1},
		{[]api.Candidate{at(40, 8, 0), at(40, 8, 1)}, 0}, {[]api.Candidate{at(40, 8, 1), at(40, 8, 0)}, 0}, {[]api.Candidate{at(40, 8, 1), at(40, 8, 3)}, 0},
		{[]api.Candidate{at(41, 8, 0), at(40, 8, 1), at(40, 8, 0)}, 1}, {[]api.Candidate{at(0, 0, 0), {}}, 0}, {[]api.Candidate{{}, at(0, 0, 0)}, 1},
		{[]api.Candidate{at(0, 0, 0), at(math.MinInt, 0, 0), at(math.MaxInt, 0, 0)}, 1}, {[]api.Candidate{at(1, 0, 0), at(2, math.MinInt, 0)}, 1},
		{[]api.Candidate{at(1, -255, 0), at(2, -256, 0), at(3, -1, 0)}, 1}, {[]api.Candidate{at(1, -1, 0), at(2, math.MaxInt, 0)}, -1},
		{[]api.Candidate{at(40, 255, 1), at(40, 248, 1)}, -1},
		{[]api.Candidate{at(7, 9, 0), at(6, 10, 0)}, 0}, {[]api.Candidate{at(1, 0, 2), at(1, 0, 0)}, 0},
	} {
		given := slices.Clone(x.cs)
		got, is := f.Through(given...)
		want := api.Candidate{}
		if x.want >= 0 {
			want = x.cs[x.want]
		}
		if got != want || is != (x.want >= 0) {
			t.Errorf("Through(%v): %v, %v", x.cs, got, is)
		}
		if !slices.Equal(given, x.cs) {
			t.Errorf("Through has changed its candidates to %v", given)
		}
	}
	if got, is := f.Through(); got != (api.Candidate{}) || is {
		t.Errorf("Through of none: %v, %v", got, is)
	}
	// What follows the candidates that are passed is none of them.
	if got, is := f.Through([]api.Candidate{at(40, 8, 1), at(41, 0, 1)}[:1]...); got.ID != 40 || !is {
		t.Errorf("Through of one of two: %v, %v", got, is)
	}
}

func TestThroughKeepsToThoseThatComeThrough(t *testing.T) { // P14.1: the highest of all need not come through
	f := open(ladder.Of(0, 1<<21))
	f.Point = [2]int{0, 5}
	if c, is := f.Through(at(40, 168, 0), at(41, 176, 1), at(42, 184, 1)); c != at(41, 176, 1) || !is {
		t.Errorf("%v: %v, %v", f, c, is)
	}
	f.On[1] = false
	if c, is := f.Through(at(40, 0, 1), at(41, 160, 0), at(42, 152, 0)); c != at(42, 152, 0) || !is {
		t.Errorf("%v: %v, %v", f, c, is)
	}
	f.Mask = 152
	if c, is := f.Through(at(40, 0, 1), at(41, 160, 0), at(42, 152, 0)); c != (api.Candidate{}) || is {
		t.Errorf("%v: %v, %v", f, c, is)
	}
}

func TestThroughOfMany(t *testing.T) { // P14.1
	next := roll(141)
	numbers, all := ends(), many()
	for _, f := range some() {
		m := modelOf(f)
		for range 300 {
			var cs []api.Candidate
			for range next(8) {
				c := api.Candidate{ID: 30 + next(4), Priority: 8 * next(32), Group: next(2), Is: next(8) > 0}
				switch next(8) {
				case 0:
					c = all[next(len(all))]
				case 1:
					c.ID = numbers[next(len(numbers))]
				}
				cs = append(cs, c)
			}
			got, is := f.Through(cs...)
			if want, any := m.through(cs); got != want || is != any {
				t.Errorf("%v: Through(%v): %v, %v, want %v", f, cs, got, is, want)
			}
		}
	}
}

func TestShows(t *testing.T) { // P14.2
	c := api.Candidate{ID: 40, Priority: 160, Group: 1, Is: true}
	on := cpuif.If{On: [2]bool{true, true}}
	for _, x := range []struct {
		f     cpuif.If
		c     api.Candidate
		group int
		want  int
	}{
		{on, c, 1, 40}, {on, c, 0, 1023}, {on, c, 3, 1023}, {on, c, -1, 1023}, {on, c, 2, 1023}, {on, api.Candidate{ID: 40, Group: 1}, 1, 1023},
		{on, api.Candidate{}, 0, 1023}, {on, api.Candidate{Is: true}, 0, 0}, {on, api.Candidate{Is: true}, 1, 1023},
		{cpuif.If{On: [2]bool{false, true}}, c, 1, 40}, {cpuif.If{On: [2]bool{true, false}}, c, 1, 1023}, {cpuif.If{}, c, 1, 1023},
		{cpuif.If{On: [2]bool{true, false}}, api.Candidate{ID: 9, Is: true}, 0, 9}, {cpuif.If{On: [2]bool{false, true}}, api.Candidate{ID: 9, Is: true}, 0, 1023},
		{cpuif.If{On: [2]bool{false, true}}, api.Candidate{ID: 9, Group: 3, Is: true}, 3, 9}, {on, api.Candidate{ID: 9, Group: 3, Is: true}, 1, 1023},
		{cpuif.If{On: [2]bool{true, false}}, api.Candidate{ID: 9, Group: 3, Is: true}, 3, 1023}, {on, api.Candidate{ID: 9, Group: 2, Is: true}, 0, 1023},
		{cpuif.If{On: [2]bool{false, true}}, api.Candidate{ID: 9, Group: -1, Is: true}, -1, 9}, {on, api.Candidate{ID: -5, Is: true}, 0, -5},
		{cpuif.If{On: [2]bool{true, false}}, api.Candidate{ID: 9, Group: math.MinInt, Is: true}, math.MinInt, 9},
		// Neither the mask nor what is running matters here, unlike in May.
		{cpuif.If{On: on.On, Mask: math.MinInt, Runs: ladder.Of(1, 1)}, c, 1, 40}, {open(ladder.Of(math.MaxUint32, math.MaxUint32)), c, 1, 40},
		{on, api.Candidate{ID: math.MaxInt, Priority: math.MaxInt, Group: 1, Is: true}, 1, math.MaxInt},
	} {
		if got := x.f.Shows(x.c, x.group); got != x.want {
			t.Errorf("%v: Shows(%v, %d): %d, want %d", x.f, x.c, x.group, got, x.want)
		}
	}
}

func TestShowsAndTakeWithNumbersAtTheEnds(t *testing.T) { // P14.2
	for _, f := range some() {
		for _, c := range many() {
			for _, group := range []int{c.Group, 0, 1, 2, 3, -1, c.Group + 2, -c.Group, math.MinInt, math.MaxInt} {
				m, g := modelOf(f), f
				if got, want := g.Shows(c, group), m.shows(c, group); got != want {
					t.Errorf("%v: Shows(%v, %d): %d, want %d", f, c, group, got, want)
				}
				id, is := g.Take(c, group)
				if want, taken := m.take(c, group); id != want || is != taken {
					t.Errorf("%v: Take(%v, %d): %d, %v, want %d, %v", f, c, group, id, is, want, taken)
				}
				if want := m.face(); g != want {
					t.Errorf("%v: Take(%v, %d): %v, want %v", f, c, group, g, want)
				}
			}
		}
	}
}

func TestTake(t *testing.T) { // P14.2
	for _, x := range []struct {
		point    [2]int
		p, group int
		want     ladder.Ladder
	}{
		{[2]int{0, 0}, 160, 0, ladder.Of(1 << 20)}, {[2]int{0, 0}, 160, 1, ladder.Of(0, 1<<20)}, {[2]int{0, 0}, 0, 0, ladder.Of(1)},
		{[2]int{0, 0}, 247, 1, ladder.Of(0, 1<<30)}, {[2]int{3, 0}, 168, 0, ladder.Of(1 << 20)}, {[2]int{3, 0}, 168, 1, ladder.Of(0, 1<<21)},
		{[2]int{0, 3}, 168, 1, ladder.Of(0, 1<<21)}, {[2]int{0, 4}, 168, 1, ladder.Of(0, 1<<20)}, {[2]int{0, 4}, 168, 0, ladder.Of(1 << 21)},
		{[2]int{7, 0}, 240, 0, ladder.Of(1)}, {[2]int{0, 7}, 240, 1, ladder.Of(0, 1<<16)}, {[2]int{0, 7}, 120, 1, ladder.Of(0, 1)},
		{[2]int{6, 0}, 240, 0, ladder.Of(1 << 16)}, {[2]int{2, 2}, 47, 0, ladder.Of(1 << 5)}, {[2]int{5, 5}, 200, 0, ladder.Of(1 << 24)},
		{[2]int{5, 5}, 232, 1, ladder.Of(0, 1<<28)}, {[2]int{4, 0}, 248 - 8, 2, ladder.Of(1 << 28)}, {[2]int{0, 5}, 240, 3, ladder.Of(0, 1<<28)},
		{[2]int{0, 5}, 240, -1, ladder.Of(0, 1<<28)}, {[2]int{-1, 0}, 240, 0, ladder.Of(1)}, {[2]int{0, 0}, -8, 0, ladder.Of(1 << 31)},
		{[2]int{0, 0}, math.MinInt, 1, ladder.Of(0, 1)},
	} {
		f := open(ladder.Of())
		f.Point, f.Split = x.point, true
		want := f
		want.Runs = x.want
		if id, is := f.Take(api.Candidate{ID: 77, Priority: x.p, Group: x.group, Is: true}, x.group); id != 77 || !is {
			t.Errorf("%v: Take of priority %d, group %d: %d, %v", f, x.p, x.group, id, is)
		}
		if f != want {
			t.Errorf("Take of priority %d, group %d, point %v: %v", x.p, x.group, x.point, f)
		}
	}
}

func TestTakeNothing(t *testing.T) { // P14.2, W4: Spurious, not 0, and nothing changes
	c := api.Candidate{ID: 40, Priority: 160, Group: 1, Is: true}
	off := open(ladder.Of())
	off.On[1] = false
	masked := open(ladder.Of())
	masked.Mask = 160
	for _, x := range []struct {
		f     cpuif.If
		c     api.Candidate
		group int
	}{
		{open(ladder.Of()), c, 0}, {open(ladder.Of()), c, 3}, {open(ladder.Of()), c, -1}, {open(ladder.Of()), api.Candidate{}, 0},
		{open(ladder.Of()), api.Candidate{ID: 40, Priority: 160, Group: 1}, 1}, {off, c, 1}, {masked, c, 1}, {open(ladder.Of(0, 1<<20)), c, 1},
		{open(ladder.Of(1<<20, 0)), c, 1}, {open(ladder.Of(1, 0)), c, 1}, {cpuif.New(), c, 1},
		{open(ladder.Of()), api.Candidate{ID: 40, Priority: 160, Group: 3, Is: true}, 1},
		{open(ladder.Of()), api.Candidate{ID: 40, Priority: 160, Group: 0, Is: true}, 2},
		{open(ladder.Of()), api.Candidate{ID: 40, Priority: 248, Group: 1, Is: true}, 1},
	} {
		before := x.f
		if id, is := x.f.Take(x.c, x.group); id != 1023 || is {
			t.Errorf("%v: Take(%v, %d): %d, %v", before, x.c, x.group, id, is)
		}
		if x.f != before {
			t.Errorf("%v: Take(%v, %d) has changed it to %v", before, x.c, x.group, x.f)
		}
	}
}

func TestTakeWithinOneAnother(t *testing.T) { // P14.1 to P14.3
	f := open(ladder.Of())
	for n, x := range []pair{{240, 1}, {232, 0}, {160, 0}, {152, 1}, {8, 0}, {0, 1}} {
		c := api.Candidate{ID: 100 + n, Priority: x.p, Group: x.group, Is: true}
		if id, is := f.Take(c, x.group); id != 100+n || !is || f.Depth() != n+1 {
			t.Fatalf("%v: %d, %v", f, id, is)
		}
		if f.May(c) || f.Shows(c, x.group) != 100+n {
			t.Errorf("%v: what is running comes through again, or is not shown", f)
		}
	}
	for n, x := range []pair{{0, 1}, {8, 0}, {152, 1}, {160, 0}, {232, 0}, {240, 1}} {
		if p, group := f.Running(); p != x.p || group != x.group || f.Depth() != 6-n {
			t.Fatalf("%v: Running: %d, %d, want %v", f, p, group, x)
		}
		if f.Drop(1-x.group) || !f.Drop(x.group) {
			t.Fatalf("%v: Drop", f)
		}
	}
	if f != open(ladder.Of()) {
		t.Errorf("after all: %v", f)
	}
}

func TestDrop(t *testing.T) { // P14.3
	for _, x := range []struct {
		runs  ladder.Ladder
		group int
		want  ladder.Ladder
		is    bool
	}{
		{ladder.Of(), 0, ladder.Of(), false}, {ladder.Of(), 1, ladder.Of(), false}, {ladder.Of(2), 0, ladder.Of(), true}, {ladder.Of(2), 1, ladder.Of(2), false},
		{ladder.Of(0, 2), 1, ladder.Of(), true}, {ladder.Of(0, 2), 0, ladder.Of(0, 2), false}, {ladder.Of(2, 2), 0, ladder.Of(0, 2), true},
		{ladder.Of(2, 2), 1, ladder.Of(2, 2), false}, {ladder.Of(4, 2), 0, ladder.Of(4, 2), false}, {ladder.Of(4, 2), 1, ladder.Of(4), true},
		{ladder.Of(6, 8), 0, ladder.Of(4, 8), true}, {ladder.Of(1<<31, 0), 0, ladder.Of(), true}, {ladder.Of(0, 3), 1, ladder.Of(0, 2), true},
		{ladder.Of(1), 0, ladder.Of(), true}, {ladder.Of(0, 1), 1, ladder.Of(), true},
	} {
		f := cpuif.If{Mask: 8, Point: [2]int{2, 3}, On: [2]bool{false, true}, Split: true, Runs: x.runs}
		want := f
		want.Runs = x.want
		if is := f.Drop(x.group); is != x.is || f != want {
			t.Errorf("%x: Drop(%d): %v, %v", x.runs.Bits, x.group, is, f)
		}
	}
}

func TestDropOfOtherGroups(t *testing.T) { // P14.3: no bit is taken here, unlike in May
	for _, f := range some() {
		for _, group := range ends() {
			g, m := f, modelOf(f)
			if got, want := g.Drop(group), m.drop(group); got != want {
				t.Errorf("%v: Drop(%d): %v", f, group, got)
			}
			holds(t, g, m)
			if group != 0 && group != 1 && g != f {
				t.Errorf("%v: Drop(%d) has changed it to %v", f, group, g)
			}
		}
	}
}

func TestReadsOfWrittenOutInterfaces(t *testing.T) { // P14.4
	f := cpuif.If{Mask: 176, Point: [2]int{4, 5}, On: [2]bool{true, false}, Split: true, Runs: ladder.Of(1<<20, 1<<22)}
	other := cpuif.If{Mask: 8, On: [2]bool{false, true}}
	far := cpuif.If{Mask: -1, Point: [2]int{-8, -8}, Runs: ladder.Of(0, 1)}
	wide := cpuif.If{Mask: math.MaxInt, Point: [2]int{math.MaxInt, math.MaxInt}, On: [2]bool{true, true}}
	const top = math.MaxUint64
	for _, x := range []struct {
		r    api.CpuReg
		want [4]uint64
	}{
		{api.Pmr, [4]uint64{176, 8, top, math.MaxInt}}, {api.Bpr0, [4]uint64{4, 0, top - 7, math.MaxInt}}, {api.Bpr1, [4]uint64{5, 1, 1, math.MaxInt}},
		{api.CtlrEl1, [4]uint64{2, 0, 0, 0}}, {api.Igrpen0, [4]uint64{1, 0, 0, 1}}, {api.Igrpen1, [4]uint64{0, 1, 0, 1}},
		{api.Rpr, [4]uint64{160, 255, 0, 255}},
	} {
		for i, face := range []cpuif.If{f, other, far, wide} {
			if got, is := face.Read(x.r); got != x.want[i] || !is {
				t.Errorf("%v: Read(%d): %d, %v, want %d", face, x.r, got, is, x.want[i])
			}
		}
	}
}

func TestWrittenOutWrites(t *testing.T) { // P14.4
	const top = math.MaxUint64
	for _, x := range []struct {
		r    api.CpuReg
		v    uint64
		want cpuif.If
		then uint64
	}{
		{api.Pmr, 0, cpuif.If{}, 0}, {api.Pmr, 7, cpuif.If{}, 0}, {api.Pmr, 8, cpuif.If{Mask: 8}, 8}, {api.Pmr, 255, cpuif.If{Mask: 248}, 248},
		{api.Pmr, 256, cpuif.If{}, 0}, {api.Pmr, 0x1a7, cpuif.If{Mask: 160}, 160}, {api.Pmr, top, cpuif.If{Mask: 248}, 248},
		{api.Bpr0, 0, cpuif.If{}, 0}, {api.Bpr0, 7, cpuif.If{Point: [2]int{7, 0}}, 7}, {api.Bpr0, 8, cpuif.If{}, 0},
		{api.Bpr0, 13, cpuif.If{Point: [2]int{5, 0}}, 5}, {api.Bpr0, top, cpuif.If{Point: [2]int{7, 0}}, 7},
		{api.Bpr1, 0, cpuif.If{Point: [2]int{0, 1}}, 1}, {api.Bpr1, 1, cpuif.If{Point: [2]int{0, 1}}, 1}, {api.Bpr1, 2, cpuif.If{Point: [2]int{0, 2}}, 2},
		{api.Bpr1, 8, cpuif.If{Point: [2]int{0, 1}}, 1}, {api.Bpr1, top, cpuif.If{Point: [2]int{0, 7}}, 7},
		{api.CtlrEl1, 0, cpuif.If{}, 0}, {api.CtlrEl1, 1, cpuif.If{}, 0}, {api.CtlrEl1, 2, cpuif.If{Split: true}, 2}, {api.CtlrEl1, 4, cpuif.If{}, 0},
		{api.CtlrEl1, top, cpuif.If{Split: true}, 2}, {api.CtlrEl1, top - 2, cpuif.If{}, 0},
		{api.Igrpen0, 1, cpuif.If{On: [2]bool{true, false}}, 1}, {api.Igrpen0, 2, cpuif.If{}, 0}, {api.Igrpen0, top, cpuif.If{On: [2]bool{true, false}}, 1},
		{api.Igrpen1, 1, cpuif.If{On: [2]bool{false, true}}, 1}, {api.Igrpen1, 2, cpuif.If{}, 0}, {api.Igrpen1, top - 1, cpuif.If{}, 0},
	} {
		f := cpuif.New()
		if !f.Write(x.r, x.v) || f != x.want {
			t.Errorf("Write(%d, %x): %v, want %v", x.r, x.v, f, x.want)
		}
		if got, is := f.Read(x.r); got != x.then || !is {
			t.Errorf("Read(%d) after %x: %d, %v", x.r, x.v, got, is)
		}
	}
}

func TestEachRegister(t *testing.T) { // P14.4
	listed := []api.CpuReg{api.Pmr, api.Bpr0, api.Bpr1, api.CtlrEl1, api.Igrpen0, api.Igrpen1, api.Rpr}
	for _, f := range some() {
		for _, r := range registers() {
			v, is := f.Read(r)
			if want := slices.Contains(listed, r); is != want || !is && v != 0 {
				t.Errorf("%v: Read(%d): %d, %v", f, r, v, is)
			}
			for _, v := range words() {
				g, m := f, modelOf(f)
				is := g.Write(r, v)
				if want := slices.Contains(listed, r) && r != api.Rpr; is != want || m.write(r, v) != want {
					t.Errorf("%v: Write(%d, %x): %v", f, r, v, is)
				}
				if want := m.face(); g != want {
					t.Errorf("%v: Write(%d, %x): %v, want %v", f, r, v, g, want)
				}
				if !is && g != f {
					t.Errorf("%v: Write(%d, %x) has changed it to %v", f, r, v, g)
				}
			}
		}
		holds(t, f, modelOf(f))
	}
}

func TestReal(t *testing.T) { // P14.5
	for id := -3000; id <= 20000; id++ {
		want := id >= 0 && id <= 1019 || id >= 8192 && id <= 16383
		if got := cpuif.Real(id); got != want {
			t.Errorf("Real(%d): %v", id, got)
		}
	}
	for _, id := range []int{
		math.MinInt, math.MinInt + 1, math.MinInt + 1019, math.MinInt + 8192, -1 << 32, -16384, -8192, 1<<16 + 40, 1<<16 + 8192, 1 << 32, 1<<32 + 1,
		1<<32 + 8192, 1 << 62, math.MaxInt - 1, math.MaxInt,
	} {
		if cpuif.Real(id) {
			t.Errorf("Real(%d)", id)
		}
	}
}

func TestInterfacesAreValues(t *testing.T) { // P14.1 to P14.4, W6
	one := open(ladder.Of(0, 1<<20))
	two := one
	two.Take(api.Candidate{ID: 40, Priority: 8, Group: 0, Is: true}, 0)
	two.Write(api.Igrpen1, 0)
	two.Write(api.Bpr0, 7)
	if one != open(ladder.Of(0, 1<<20)) {
		t.Errorf("a copy shares something: %v", one)
	}
	one.Drop(1)
	if p, group := two.Running(); p != 8 || group != 0 || two.Depth() != 2 {
		t.Errorf("a copy shares what is running: %d, %d", p, group)
	}
}

func TestNilInterfaces(t *testing.T) { // W1
	var f *cpuif.If
	if id, is := f.Take(api.Candidate{ID: 40, Is: true}, 0); id != 1023 || is {
		t.Errorf("Take: %d, %v", id, is)
	}
	if f.Drop(0) || f.Drop(1) || f.Write(api.Pmr, 8) || f.Write(api.Rpr, 8) {
		t.Error("Drop or Write")
	}
}

// act lets one call of some kind be made to an interface and to the model, which are held against each other.
func act(t *testing.T, next func(n int) int, f *cpuif.If, m *model) {
	numbers, vs, rs := ends(), words(), registers()
	c := api.Candidate{ID: 30 + next(8), Priority: next(32)*8 + next(16)/15*next(8), Group: next(2), Is: next(16) > 0}
	group := c.Group
	if next(8) == 0 {
		group = numbers[next(len(numbers))]
	}
	if next(16) == 0 {
		c.Group = group
	}
	switch next(8) {
	case 0, 1, 2, 3:
		id, is := f.Take(c, group)
		if want, taken := m.take(c, group); id != want || is != taken {
			t.Fatalf("Take(%v, %d): %d, %v, want %d, %v", c, group, id, is, want, taken)
		}
	case 4, 5:
		if got, want := f.Drop(group), m.drop(group); got != want {
			t.Fatalf("Drop(%d): %v", group, got)
		}
	case 6:
		r, v := rs[next(len(rs))], vs[next(len(vs))]
		if got, want := f.Write(r, v), m.write(r, v); got != want {
			t.Fatalf("Write(%d, %x): %v", r, v, got)
		}
	case 7:
		for _, r := range []api.CpuReg{api.Pmr, api.Igrpen0, api.Igrpen1} {
			f.Write(r, 255)
			m.write(r, 255)
		}
	}
	if f.May(c) != m.may(c) || f.Shows(c, group) != m.shows(c, group) {
		t.Fatalf("%v: May or Shows of %v, %d", *f, c, group)
	}
}

func TestManyCalls(t *testing.T) { // P14.1 to P14.4
	deep, taken := 0, 0
	for seed := range 40 {
		next := roll(seed)
		f, m := cpuif.New(), &model{}
		for range 1000 {
			before := f.Depth()
			act(t, next, &f, m)
			holds(t, f, m)
			if f.Depth() > before {
				taken++
			}
			deep = max(deep, f.Depth())
		}
	}
	if deep < 5 || taken < 1000 {
		t.Errorf("the calls reach little: %d taken, %d within one another", taken, deep)
	}
}
