package sets_test

import (
	"iter"
	"math"
	"slices"
	"testing"

	"crier/api"
	"crier/sets"
)

type id int

const last = api.MaxMember - 1

// outside lists numbers that are no valid members.
func outside() []int {
	return []int{-1, -2, -63, -64, -65, math.MinInt, math.MinInt + 1, math.MinInt + 64, -api.MaxMember,
		api.MaxMember, api.MaxMember + 1, api.MaxMember + 64, 1 << 32, 1<<32 + 5, 1 << 62, math.MaxInt}
}

// edges lists valid members beside which something may change.
func edges() []int {
	return []int{0, 1, 2, 62, 63, 64, 65, 127, 128, 8191, 8192, last - 64, last - 63, last - 1, last}
}

func all[M sets.Member](s *sets.Set[M]) []M { return slices.Collect(s.All()) }

func pairs[M sets.Member](seq iter.Seq2[M, M]) [][2]M {
	var l [][2]M
	for a, b := range seq {
		l = append(l, [2]M{a, b})
	}
	return l
}

func full() *sets.Set[int] {
	s := sets.Of[int]()
	for m := range api.MaxMember {
		s.Put(m)
	}
	return s
}

// holds reports where a set's answers differ from those for the increasing members want.
func holds[M sets.Member](t *testing.T, s *sets.Set[M], want ...M) {
	t.Helper()
	if got := all(s); !slices.Equal(got, want) {
		t.Fatalf("All: %v, want %v", got, want)
	}
	if got := s.Len(); got != len(want) {
		t.Errorf("Len: %d, want %d", got, len(want))
	}
	for _, m := range want {
		if !s.Has(m) {
			t.Errorf("Has(%d): false", m)
		}
	}
	least, isLeast := s.Least()
	most, isMost := s.Most()
	if len(want) == 0 {
		if least != 0 || most != 0 || isLeast || isMost {
			t.Error("Least and Most of an empty set:", least, isLeast, most, isMost)
		}
		return
	}
	if least != want[0] || most != want[len(want)-1] || !isLeast || !isMost {
		t.Error("Least and Most:", least, isLeast, most, isMost)
	}
}

func TestOfKeepsValidMembersOnly(t *testing.T) { // P1.1
	holds(t, sets.Of(5, 3, 5, -1, 16384), 3, 5)
	holds(t, sets.Of[int]())
	holds(t, sets.Of([]id(nil)...))
	holds(t, sets.Of(outside()...))
	holds(t, sets.Of(edges()...), edges()...)
	holds(t, sets.Of(append(outside(), edges()...)...), edges()...)
	holds(t, sets.Of[id](last, 0), 0, last)
}

func TestOfReturnsANewSet(t *testing.T) { // P1.1, W6
	given := []int{9, 4, -3, 4}
	s := sets.Of(given...)
	r := sets.Of(given...)
	s.Put(7)
	s.Take(9)
	if !slices.Equal(given, []int{9, 4, -3, 4}) {
		t.Error("the argument was changed:", given)
	}
	given[0] = 100
	holds(t, s, 4, 7)
	holds(t, r, 4, 9)
}

func TestPutAndTakeAtEdges(t *testing.T) { // P1.1
	s := sets.Of[int]()
	for i, m := range edges() {
		if s.Has(m) || s.Take(m) {
			t.Errorf("%d before Put: a member", m)
		}
		if !s.Put(m) || s.Put(m) {
			t.Errorf("Put(%d): not true and then false", m)
		}
		holds(t, s, edges()[:i+1]...)
	}
	for i, m := range edges() {
		if !s.Take(m) || s.Take(m) || s.Has(m) {
			t.Errorf("Take(%d): not true and then false", m)
		}
		holds(t, s, edges()[i+1:]...)
	}
}

func TestNumbersOutsideChangeNothing(t *testing.T) { // P1.1
	some, every := sets.Of(edges()...), full()
	for _, m := range outside() {
		for _, s := range []*sets.Set[int]{some, every, sets.Of[int]()} {
			if n := s.Len(); s.Put(m) || s.Take(m) || s.Has(m) || s.Len() != n {
				t.Errorf("%d: put, taken or there", m)
			}
		}
	}
	holds(t, some, edges()...)
	if every.Len() != api.MaxMember {
		t.Error("the full set has changed:", every.Len())
	}
}

func TestFullSet(t *testing.T) { // P1.1, P1.2
	s := full()
	want := make([]int, api.MaxMember)
	for m := range want {
		want[m] = m
	}
	holds(t, s, want...)
	if got := pairs(s.Runs()); !slices.Equal(got, [][2]int{{0, last}}) {
		t.Error("Runs:", got)
	}
	for m := range api.MaxMember {
		if !s.Take(m) {
			t.Fatalf("Take(%d): false", m)
		}
	}
	holds(t, s)
}

func TestFrom(t *testing.T) { // P1.2
	for _, c := range []struct {
		members []int
		from    int
		want    []int
	}{
		{[]int{3, 5, 8}, 4, []int{5, 8}},
		{[]int{3, 5, 8}, 5, []int{5, 8}},
		{[]int{3, 5, 8}, 6, []int{8}},
		{[]int{3, 5, 8}, 8, []int{8}},
		{[]int{3, 5, 8}, 9, nil},
		{[]int{3, 5, 8}, 0, []int{3, 5, 8}},
		{[]int{0, last}, -1, []int{0, last}},
		{[]int{0, last}, -64, []int{0, last}},
		{[]int{0, last}, math.MinInt, []int{0, last}},
		{[]int{0, last}, 0, []int{0, last}},
		{[]int{0, last}, 1, []int{last}},
		{[]int{0, last}, last, []int{last}},
		{[]int{0, last}, last + 1, nil},
		{[]int{0, last}, last + 2, nil},
		{[]int{0, last}, math.MaxInt, nil},
		{[]int{0, 63, 64, 127, 128}, 63, []int{63, 64, 127, 128}},
		{[]int{0, 63, 64, 127, 128}, 64, []int{64, 127, 128}},
		{[]int{0, 63, 64, 127, 128}, 65, []int{127, 128}},
		{nil, 0, nil},
		{nil, math.MinInt, nil},
	} {
		if got := slices.Collect(sets.Of(c.members...).From(c.from)); !slices.Equal(got, c.want) {
			t.Errorf("From(%d) of %v: %v, want %v", c.from, c.members, got, c.want)
		}
	}
}

func TestLeastAndMost(t *testing.T) { // P1.2
	for _, m := range edges() {
		holds(t, sets.Of(m), m)
	}
	s := sets.Of[id](70, 0, 300)
	s.Take(0)
	s.Take(300)
	holds(t, s, 70)
	s.Take(70)
	holds(t, s)
}

func TestRuns(t *testing.T) { // P1.2
	for _, c := range []struct {
		members []id
		want    [][2]id
	}{
		{nil, nil},
		{[]id{1, 2, 3, 7}, [][2]id{{1, 3}, {7, 7}}},
		{[]id{0}, [][2]id{{0, 0}}},
		{[]id{last}, [][2]id{{last, last}}},
		{[]id{0, 1, last - 1, last}, [][2]id{{0, 1}, {last - 1, last}}},
		{[]id{0, 2, 4}, [][2]id{{0, 0}, {2, 2}, {4, 4}}},
		{[]id{62, 63, 64, 65}, [][2]id{{62, 65}}},
		{[]id{63, 65}, [][2]id{{63, 63}, {65, 65}}},
		{[]id{62, 63, 65}, [][2]id{{62, 63}, {65, 65}}},
		{[]id{62, 64, 65}, [][2]id{{62, 62}, {64, 65}}},
	} {
		if got := pairs(sets.Of(c.members...).Runs()); !slices.Equal(got, c.want) {
			t.Errorf("Runs of %v: %v, want %v", c.members, got, c.want)
		}
	}
	long := sets.Of[int]()
	for m := 60; m < 260; m++ {
		long.Put(m)
	}
	long.Take(192)
	if got := pairs(long.Runs()); !slices.Equal(got, [][2]int{{60, 191}, {193, 259}}) {
		t.Error("long runs:", got)
	}
}

// TestLoopsOfTheTimeOfTheCall changes a set between the call and the loop, within the loop, and between two loops.
func TestLoopsOfTheTimeOfTheCall(t *testing.T) { // P1.2, W8
	s := sets.Of(3, 4, 8, 200)
	from, every, runs := s.From(4), s.All(), s.Runs()
	s.Take(8)
	s.Put(5)
	for range 2 {
		if got := slices.Collect(from); !slices.Equal(got, []int{4, 8, 200}) {
			t.Error("From:", got)
		}
		if got := slices.Collect(every); !slices.Equal(got, []int{3, 4, 8, 200}) {
			t.Error("All:", got)
		}
		if got := pairs(runs); !slices.Equal(got, [][2]int{{3, 4}, {8, 8}, {200, 200}}) {
			t.Error("Runs:", got)
		}
		s.Take(200)
		s.Put(0)
	}
	holds(t, s, 0, 3, 4, 5)
}

func TestSetsChangedWithinLoops(t *testing.T) { // P1.2, W8
	s := sets.Of(3, 4, 8, 200)
	var got []int
	for m := range s.All() {
		got = append(got, m)
		s.Take(m)
		s.Take(8)
		s.Put(m + 1000)
	}
	if !slices.Equal(got, []int{3, 4, 8, 200}) {
		t.Error("All:", got)
	}
	holds(t, s, 1003, 1004, 1008, 1200)
	var runs [][2]int
	for a, b := range s.Runs() {
		runs = append(runs, [2]int{a, b})
		s.Put(b + 1)
		s.Take(1200)
	}
	if !slices.Equal(runs, [][2]int{{1003, 1004}, {1008, 1008}, {1200, 1200}}) {
		t.Error("Runs:", runs)
	}
	holds(t, s, 1003, 1004, 1005, 1008, 1009, 1201)
}

func TestLoopsLeftEarlyAndGoneThroughAgain(t *testing.T) { // P1.2, W8
	s := sets.Of(1, 2, 64, 300)
	every, from, runs := s.All(), s.From(2), s.Runs()
	for n := range 4 {
		var a, f []int
		for m := range every {
			if a = append(a, m); len(a) > n {
				break
			}
		}
		for m := range from {
			if f = append(f, m); len(f) > n {
				break
			}
		}
		var r [][2]int
		for x, y := range runs {
			if r = append(r, [2]int{x, y}); len(r) > n {
				break
			}
		}
		if want := []int{1, 2, 64, 300}[:n+1]; !slices.Equal(a, want) {
			t.Errorf("All left after %d: %v", n+1, a)
		}
		if want := []int{2, 64, 300}[:min(n+1, 3)]; !slices.Equal(f, want) {
			t.Errorf("From left after %d: %v", n+1, f)
		}
		if want := [][2]int{{1, 2}, {64, 64}, {300, 300}}[:min(n+1, 3)]; !slices.Equal(r, want) {
			t.Errorf("Runs left after %d: %v", n+1, r)
		}
	}
	holds(t, s, 1, 2, 64, 300)
}

func TestLoopsWithinOneAnother(t *testing.T) { // P1.2, W8
	every := sets.Of(1, 64, 300).All()
	var got []int
	for a := range every {
		for b := range every {
			got = append(got, a+b)
		}
	}
	if !slices.Equal(got, []int{2, 65, 301, 65, 128, 364, 301, 364, 600}) {
		t.Error(got)
	}
}

func TestCopyIsIndependent(t *testing.T) { // P1.3, W6
	s := sets.Of[id](0, 64, last)
	c := s.Copy()
	holds(t, c, 0, 64, last)
	c.Take(64)
	c.Put(65)
	s.Put(1)
	holds(t, s, 0, 1, 64, last)
	holds(t, c, 0, 65, last)
	holds(t, sets.Of[id]().Copy())
}

func TestCombinations(t *testing.T) { // P1.3
	for _, c := range []struct{ s, t, union, meet, less []int }{
		{nil, nil, nil, nil, nil},
		{[]int{1, 200}, nil, []int{1, 200}, nil, []int{1, 200}},
		{nil, []int{1, 200}, []int{1, 200}, nil, nil},
		{[]int{1, 2, 200}, []int{2, 3}, []int{1, 2, 3, 200}, []int{2}, []int{1, 200}},
		{[]int{2, 3}, []int{1, 2, 200}, []int{1, 2, 3, 200}, []int{2}, []int{3}},
		{[]int{0, last}, []int{0, last}, []int{0, last}, []int{0, last}, nil},
		{[]int{0, 63, last}, []int{64, last}, []int{0, 63, 64, last}, []int{last}, []int{0, 63}},
	} {
		s, u := sets.Of(c.s...), sets.Of(c.t...)
		holds(t, sets.Union(s, u), c.union...)
		holds(t, sets.Meet(s, u), c.meet...)
		holds(t, sets.Less(s, u), c.less...)
		holds(t, s, c.s...)
		holds(t, u, c.t...)
	}
}

func TestCombinationsAreNewSets(t *testing.T) { // P1.3, W6
	for _, join := range []func(s, t *sets.Set[int]) *sets.Set[int]{sets.Union[int], sets.Meet[int], sets.Less[int]} {
		s, u := sets.Of(1, 2, 70), sets.Of(2, 70, 500)
		for _, r := range []*sets.Set[int]{join(s, u), join(s, s), join(s, sets.Of[int]()), join(sets.Of[int](), s)} {
			r.Take(1)
			r.Take(70)
			r.Put(9)
			holds(t, s, 1, 2, 70)
			holds(t, u, 2, 70, 500)
		}
		r := join(s, u)
		before := all(r)
		s.Put(4000)
		u.Put(4001)
		holds(t, r, before...)
	}
}

func TestCombinationsWithItself(t *testing.T) { // P1.3
	s := sets.Of(0, 64, last)
	holds(t, sets.Union(s, s), 0, 64, last)
	holds(t, sets.Meet(s, s), 0, 64, last)
	holds(t, sets.Less(s, s))
	if !sets.Same(s, s) {
		t.Error("a set is not the same as itself")
	}
}

func TestSame(t *testing.T) { // P1.3
	lists := [][]int{nil, {0}, {last}, {0, last}, {64}, {0, 64, last}, {1, 2, 3}, {1, 2}}
	for i, a := range lists {
		for j, b := range lists {
			if got := sets.Same(sets.Of(a...), sets.Of(b...)); got != (i == j) {
				t.Errorf("Same of %v and %v: %v", a, b, got)
			}
		}
	}
}

// TestOrderDoesNotMatter builds the same members in several ways.
func TestOrderDoesNotMatter(t *testing.T) { // P1.4
	want := sets.Of(0, 64, 100, last)
	back := sets.Of(last, 100, 64, 0, 64, 64, -7, api.MaxMember)
	cut := full()
	for m := last; m >= 0; m-- {
		if !want.Has(m) {
			cut.Take(m)
		}
	}
	grown := sets.Of[int]()
	for _, m := range []int{100, 5000, 0, last, 5000, 64, 3} {
		grown.Put(m)
	}
	grown.Take(3)
	grown.Take(last)
	grown.Take(5000)
	grown.Put(last)
	joined := sets.Less(sets.Union(sets.Of(100, 12000), sets.Of(last, 0, 64)), sets.Of(12000))
	for _, s := range []*sets.Set[int]{back, cut, grown, joined} {
		holds(t, s, all(want)...)
		if !sets.Same(s, want) || !sets.Same(want, s) || *s != *want {
			t.Error("not the same:", all(s))
		}
	}
	emptied := full()
	for m := range emptied.All() {
		emptied.Take(m)
	}
	if !sets.Same(emptied, sets.Of[int]()) || !sets.Same(sets.Of[int](), emptied) {
		t.Error("an emptied set is not the same as a new one")
	}
}

// runsOf works out the runs of increasing members by comparing neighbours.
func runsOf(ms []id) [][2]id {
	var l [][2]id
	for i, m := range ms {
		if i > 0 && ms[i-1] == m-1 {
			l[len(l)-1][1] = m
		} else {
			l = append(l, [2]id{m, m})
		}
	}
	return l
}

// TestAgainstMaps does a long row of steps with two sets and with two maps; they must agree throughout.
func TestAgainstMaps(t *testing.T) { // P1.1 to P1.4
	seed := uint64(1)
	next := func(n int) int {
		seed = seed*6364136223846793005 + 1442695040888963407
		return int(seed>>33) % n
	}
	s := [2]*sets.Set[id]{sets.Of[id](), sets.Of[id]()}
	m := [2]map[id]bool{{}, {}}
	for step := range 6000 {
		// Most numbers lie close together, around a word's end or the end of all.
		k, x := next(2), id([]int{0, 60, last - 70}[next(3)]+next(80)-4)
		fits := x >= 0 && x <= last
		if s[k].Has(x) != m[k][x] {
			t.Fatalf("step %d: Has(%d)", step, x)
		}
		if next(2) == 0 {
			if s[k].Put(x) != (fits && !m[k][x]) {
				t.Fatalf("step %d: Put(%d)", step, x)
			}
			if fits {
				m[k][x] = true
			}
		} else {
			if s[k].Take(x) != m[k][x] {
				t.Fatalf("step %d: Take(%d)", step, x)
			}
			delete(m[k], x)
		}
		if step%20 == 0 {
			agree(t, s, m, x)
		}
	}
}

func agree(t *testing.T, s [2]*sets.Set[id], m [2]map[id]bool, x id) {
	t.Helper()
	members := func(has func(id) bool) []id {
		var l []id
		for i := range id(api.MaxMember) {
			if has(i) {
				l = append(l, i)
			}
		}
		return l
	}
	a := members(func(i id) bool { return m[0][i] })
	holds(t, s[0], a...)
	holds(t, s[1], members(func(i id) bool { return m[1][i] })...)
	holds(t, sets.Union(s[0], s[1]), members(func(i id) bool { return m[0][i] || m[1][i] })...)
	holds(t, sets.Meet(s[0], s[1]), members(func(i id) bool { return m[0][i] && m[1][i] })...)
	holds(t, sets.Less(s[0], s[1]), members(func(i id) bool { return m[0][i] && !m[1][i] })...)
	if want := members(func(i id) bool { return m[0][i] && i >= x }); !slices.Equal(slices.Collect(s[0].From(x)), want) {
		t.Errorf("From(%d) differs", x)
	}
	if !slices.Equal(pairs(s[0].Runs()), runsOf(a)) {
		t.Error("Runs differ")
	}
	if !sets.Same(s[0], sets.Of(a...)) {
		t.Error("not the same as a new set of its members")
	}
}
