package bank_test

import (
	"iter"
	"math"
	"slices"
	"testing"

	"crier/api"
	"crier/bank"
)

// item is an interrupt, as a loop yields it.
type item[X comparable] struct {
	id int
	e  bank.Entry[X]
}

// ends lists numbers on both sides of those that the chapter names, and at both ends of int.
func ends() []int {
	return []int{
		math.MinInt, math.MinInt + 1, math.MinInt + 32, math.MinInt + 16384, -1 << 32, -16385, -16384, -256, -33, -32, -2, -1, 0, 1, 2, 31, 32, 33,
		35, 36, 37, 255, 256, 8191, 8192, 16383, 16384, 16385, 1 << 31, 1 << 32, 1<<32 + 32, 1 << 62, math.MaxInt - 16384, math.MaxInt - 32,
		math.MaxInt - 1, math.MaxInt,
	}
}

// groups lists all choices of groups.
func groups() [][2]bool {
	return [][2]bool{{false, false}, {true, false}, {false, true}, {true, true}}
}

// states lists all states of an interrupt.
func states() []api.Irq {
	var row []api.Irq
	for k := range 16 {
		row = append(row, api.Irq{Edge: k&1 != 0, Line: k&2 != 0, Latch: k&4 != 0, Active: k&8 != 0})
	}
	return row
}

// waiting returns a line that is enabled and ready.
func waiting(group, priority int) api.Line {
	return api.Line{Irq: api.Irq{Latch: true}, Enabled: true, Group: group, Priority: priority}
}

func collect[X comparable](seq iter.Seq2[int, bank.Entry[X]]) []item[X] {
	var row []item[X]
	for id, e := range seq {
		row = append(row, item[X]{id, e})
	}
	return row
}

// of yields items, whatever they are.
func of[X comparable](row []item[X]) iter.Seq2[int, bank.Entry[X]] {
	return func(yield func(int, bank.Entry[X]) bool) {
		for _, x := range row {
			if !yield(x.id, x.e) {
				return
			}
		}
	}
}

// made returns a bank, which the numbers must allow.
func made[X any](t *testing.T, first, n int, extra X) *bank.Bank[X] {
	t.Helper()
	b, e := bank.New(first, n, extra)
	if b == nil || e != api.OK {
		t.Fatalf("New(%d, %d): %v, %v", first, n, b, e)
	}
	return b
}

// put sets an interrupt, which there must be.
func put[X any](t *testing.T, b *bank.Bank[X], id int, l api.Line, extra X) {
	t.Helper()
	if e := b.Put(id, bank.Entry[X]{Line: l, Extra: extra}); e != api.OK {
		t.Fatalf("Put(%d, %v): %v", id, l, e)
	}
}

// ready returns those of a row that are enabled, pending and not active, and whose group is let in: each condition by itself.
func ready[X comparable](row []item[X], in [2]bool) []item[X] {
	return slices.DeleteFunc(slices.Clone(row), func(x item[X]) bool {
		l := x.e.Line
		pending := l.Latch || l.Line && !l.Edge
		return !l.Enabled || !pending || l.Active || l.Group == 0 && !in[0] || l.Group == 1 && !in[1]
	})
}

// inGroup returns those of a row that are in a group.
func inGroup[X comparable](row []item[X], group int) []item[X] {
	return slices.DeleteFunc(slices.Clone(row), func(x item[X]) bool { return x.e.Group != group })
}

// sorted returns the numbers of a row by their priorities, and of equal priorities by themselves: one by one.
func sorted[X comparable](row []item[X]) []int {
	rest := slices.Clone(row)
	var ids []int
	for len(rest) > 0 {
		first := 0
		for i, x := range rest {
			y := rest[first]
			if x.e.Priority < y.e.Priority || x.e.Priority == y.e.Priority && x.id < y.id {
				first = i
			}
		}
		ids = append(ids, rest[first].id)
		rest = slices.Delete(rest, first, first+1)
	}
	return ids
}

// best returns the candidate of a row.
func best[X comparable](row []item[X]) api.Candidate {
	ids := sorted(row)
	if len(ids) == 0 {
		return api.Candidate{}
	}
	i := slices.IndexFunc(row, func(x item[X]) bool { return x.id == ids[0] })
	return api.Candidate{ID: ids[0], Priority: row[i].e.Priority, Group: row[i].e.Group, Is: true}
}

// holds reports where a bank's answers differ from those for the interrupts want, which have consecutive numbers.
func holds[X comparable](t *testing.T, b *bank.Bank[X], want []item[X]) {
	t.Helper()
	if got := collect(b.All()); !slices.Equal(got, want) {
		t.Fatalf("All: %v, want %v", got, want)
	}
	for _, x := range want {
		if e, err := b.Get(x.id); e != x.e || err != api.OK || !b.Has(x.id) {
			t.Errorf("Get(%d): %v, %v, want %v", x.id, e, err, x.e)
		}
	}
	agrees(t, "All", b.All(), want)
	for _, in := range groups() {
		agrees(t, "Ready", b.Ready(in), ready(want, in))
	}
}

// agrees reports where the functions of a sequence differ from what they should be for what it yields.
func agrees[X comparable](t *testing.T, name string, some iter.Seq2[int, bank.Entry[X]], want []item[X]) {
	t.Helper()
	if got := collect(some); !slices.Equal(got, want) {
		t.Errorf("%s: %v, want %v", name, got, want)
	}
	if got := bank.Count(some); got != len(want) {
		t.Errorf("Count of %s: %d, want %d", name, got, len(want))
	}
	if got := bank.Best(some); got != best(want) {
		t.Errorf("Best of %s: %v, want %v", name, got, best(want))
	}
	if got := bank.Sorted(some); !slices.Equal(got, sorted(want)) {
		t.Errorf("Sorted of %s: %v, want %v", name, got, sorted(want))
	}
	for group := -1; group <= 2; group++ {
		if got := collect(bank.Of(some, group)); !slices.Equal(got, inGroup(want, group)) {
			t.Errorf("Of %s, group %d: %v, want %v", name, group, got, inGroup(want, group))
		}
	}
}

// lacks reports an answer of a bank for an interrupt that it does not have, and what the calls have changed.
func lacks[X comparable](t *testing.T, b *bank.Bank[X], id int) {
	t.Helper()
	before := collect(b.All())
	if b.Has(id) {
		t.Errorf("Has(%d): true", id)
	}
	if e, err := b.Get(id); e != (bank.Entry[X]{}) || err != api.ErrLine {
		t.Errorf("Get(%d): %v, %v", id, e, err)
	}
	for _, l := range []api.Line{{}, waiting(1, 8), {Group: 2}, {Group: -1}, {Priority: -1}, {Priority: 256}} {
		if err := b.Put(id, bank.Entry[X]{Line: l}); err != api.ErrLine {
			t.Errorf("Put(%d, %v): %v", id, l, err)
		}
	}
	for _, a := range []api.Act{api.Rise, api.Set, 0, -1, 99} {
		if err := b.Do(id, a); err != api.ErrLine {
			t.Errorf("Do(%d, %d): %v", id, a, err)
		}
	}
	if after := collect(b.All()); !slices.Equal(after, before) {
		t.Errorf("interrupt %d, which there is not, has changed the others", id)
	}
}

// roll returns a source of numbers below a given one, which depend on seed alone.
func roll(seed int) func(n int) int {
	x := uint64(seed)*2 + 1
	return func(n int) int {
		x = x*6364136223846793005 + 1442695040888963407
		return int(x >> 33 % uint64(n))
	}
}

func TestExamples(t *testing.T) { // P9.1, P9.2, P9.3, P9.4
	b := made(t, 32, 2, "x")
	if e, err := b.Get(33); e != (bank.Entry[string]{Extra: "x"}) || err != api.OK {
		t.Errorf("Get(33): %v, %v", e, err)
	}
	if e, err := b.Get(34); e != (bank.Entry[string]{}) || err != api.ErrLine {
		t.Errorf("Get(34): %v, %v", e, err)
	}
	put(t, b, 32, waiting(1, 165), "")
	both := [2]bool{true, true}
	if got := collect(b.Ready(both)); !slices.Equal(got, []item[string]{{32, bank.Entry[string]{Line: waiting(1, 160)}}}) {
		t.Errorf("Ready: %v", got)
	}
	if c := bank.Best(b.Ready(both)); c != (api.Candidate{ID: 32, Priority: 160, Group: 1, Is: true}) {
		t.Errorf("Best: %v", c)
	}
	if b, err := bank.New(16000, 400, 0); b != nil || err != api.ErrArg {
		t.Errorf("New(16000, 400): %v, %v", b, err)
	}
}

func TestNew(t *testing.T) { // P9.1
	for _, x := range []struct {
		first, n int
		is       bool
	}{
		{0, 0, true}, {0, 1, true}, {1, 0, true}, {0, 16383, true}, {0, 16384, true}, {0, 16385, false}, {1, 16383, true}, {1, 16384, false},
		{8192, 8192, true}, {8192, 8193, false}, {8193, 8192, false}, {16383, 0, true}, {16383, 1, true}, {16383, 2, false}, {16384, 0, true},
		{16384, 1, false}, {16385, 0, false}, {-1, 0, false}, {0, -1, false}, {-1, 1, false}, {-1, -1, false}, {-1, 2, false}, {16385, -1, false},
		{16384, -1, false}, {-16384, 16384, false}, {-1, 16385, false}, {16000, 384, true}, {16000, 385, false}, {math.MaxInt, 1, false},
		{1, math.MaxInt, false}, {math.MaxInt, math.MaxInt, false}, {math.MinInt, math.MinInt, false}, {math.MaxInt, math.MinInt, false},
		{math.MinInt, math.MaxInt, false}, {math.MaxInt, 0, false}, {0, math.MaxInt, false}, {1 << 62, 1 << 62, false},
		{math.MaxInt - 16384, 16385, false},
	} {
		b, err := bank.New(x.first, x.n, 'x')
		if x.is != (err == api.OK) || x.is != (b != nil) || !x.is && err != api.ErrArg {
			t.Errorf("New(%d, %d): %v, want %v", x.first, x.n, err, x.is)
			continue
		}
		if !x.is {
			continue
		}
		at := x.first
		for id, e := range b.All() {
			if id != at || e != (bank.Entry[rune]{Extra: 'x'}) {
				t.Fatalf("New(%d, %d): interrupt %d: %d, %v", x.first, x.n, at, id, e)
			}
			if got, err := b.Get(id); !b.Has(id) || got != e || err != api.OK {
				t.Fatalf("New(%d, %d): Get(%d): %v, %v", x.first, x.n, id, got, err)
			}
			at++
		}
		if at != x.first+x.n {
			t.Errorf("New(%d, %d): %d interrupts", x.first, x.n, at-x.first)
		}
		lacks(t, b, x.first-1)
		lacks(t, b, x.first+x.n)
	}
}

func TestNewWithNumbersAtTheEnds(t *testing.T) { // P9.1, W1, W5
	for _, first := range ends() {
		for _, n := range ends() {
			b, err := bank.New(first, n, struct{}{})
			// Only where both are small is their sum one of int.
			is := first >= 0 && first <= 16384 && n >= 0 && n <= 16384 && first+n <= 16384
			if is && (b == nil || err != api.OK) || !is && (b != nil || err != api.ErrArg) {
				t.Errorf("New(%d, %d): %v", first, n, err)
			}
			if is && bank.Count(b.All()) != n {
				t.Errorf("New(%d, %d): %d interrupts", first, n, bank.Count(b.All()))
			}
		}
	}
}

func TestInterruptsThatThereAreNot(t *testing.T) { // P9.1, P9.2, W1, W3, W4
	for _, x := range [][2]int{{0, 0}, {0, 3}, {32, 4}, {32, 0}, {16383, 1}, {16384, 0}, {16380, 4}} {
		b := made(t, x[0], x[1], "x")
		for _, id := range ends() {
			is := id >= x[0] && id < x[0]+x[1]
			if b.Has(id) != is {
				t.Errorf("New(%d, %d): Has(%d): %v", x[0], x[1], id, b.Has(id))
			}
			if !is {
				lacks(t, b, id)
			}
		}
	}
}

func TestPut(t *testing.T) { // P9.2
	b := made(t, 32, 4, "x")
	want := collect(b.All())
	for _, s := range states() {
		for group := range 2 {
			for priority := range 256 {
				l := api.Line{Irq: s, Enabled: priority%3 == 0, Group: group, Priority: priority}
				put(t, b, 34, l, "y")
				l.Priority = priority / 8 * 8
				want[2].e = bank.Entry[string]{Line: l, Extra: "y"}
				if e, err := b.Get(34); e != want[2].e || err != api.OK {
					t.Errorf("Get after Put of %d: %v, %v", priority, e, err)
				}
			}
		}
	}
	holds(t, b, want)
}

func TestPutOfGroupsAndPrioritiesThatThereAreNot(t *testing.T) { // P9.2, W3, W4
	b := made(t, 32, 4, 5)
	put(t, b, 33, waiting(1, 248), 6)
	want := collect(b.All())
	numbers := append(ends(), -8, 3, 248, 249, 254, 257, 263, 264)
	for _, group := range numbers {
		for _, priority := range numbers {
			if (group == 0 || group == 1) && priority >= 0 && priority <= 255 {
				continue
			}
			for id := 32; id < 36; id++ {
				l := waiting(group, priority)
				if err := b.Put(id, bank.Entry[int]{Line: l, Extra: 7}); err != api.ErrArg {
					t.Errorf("Put(%d) of group %d, priority %d: %v", id, group, priority, err)
				}
			}
		}
	}
	holds(t, b, want)
	for _, x := range [][2]int{{0, 0}, {1, 0}, {0, 255}, {1, 255}} {
		if err := b.Put(35, bank.Entry[int]{Line: waiting(x[0], x[1])}); err != api.OK {
			t.Errorf("Put of group %d, priority %d: %v", x[0], x[1], err)
		}
	}
}

func TestDo(t *testing.T) { // P9.2
	for _, s := range states() {
		for a, want := range map[api.Act]api.Irq{
			api.Rise:     {Edge: s.Edge, Line: true, Latch: s.Latch || s.Edge && !s.Line, Active: s.Active},
			api.Fall:     {Edge: s.Edge, Latch: s.Latch, Active: s.Active},
			api.Set:      {Edge: s.Edge, Line: s.Line, Latch: true, Active: s.Active},
			api.Clear:    {Edge: s.Edge, Line: s.Line, Active: s.Active},
			api.End:      {Edge: s.Edge, Line: s.Line, Latch: s.Latch},
			api.Activate: {Edge: s.Edge, Line: s.Line, Latch: s.Latch, Active: true},
			api.ToEdge:   {Edge: true, Line: s.Line, Latch: s.Latch, Active: s.Active},
			api.ToLevel:  {Line: s.Line, Latch: s.Latch, Active: s.Active},
			api.Ack:      acknowledged(s),
			0:            s, -1: s, 10: s, math.MinInt: s, math.MaxInt: s,
		} {
			b := made(t, 32, 3, "x")
			l := api.Line{Irq: s, Enabled: true, Group: 1, Priority: 40}
			put(t, b, 33, l, "y")
			all := collect(b.All())
			if err := b.Do(33, a); err != api.OK {
				t.Errorf("Do(33, %d): %v", a, err)
			}
			all[1].e.Irq = want
			holds(t, b, all)
		}
	}
}

// acknowledged returns the state after Ack.
func acknowledged(s api.Irq) api.Irq {
	if !s.Active && (s.Latch || s.Line && !s.Edge) {
		return api.Irq{Edge: s.Edge, Line: s.Line, Active: true}
	}
	return s
}

func TestReset(t *testing.T) { // P9.2
	b := made(t, 8192, 5, 0)
	var want []item[int]
	for k := range 5 {
		put(t, b, 8192+k, api.Line{Irq: states()[15-k], Enabled: true, Group: 1, Priority: 255 - 8*k}, 100+k)
		want = append(want, item[int]{8192 + k, bank.Entry[int]{Extra: 100 + k}})
	}
	for range 2 {
		b.Reset()
		holds(t, b, want)
	}
	none := made(t, 5, 0, 0)
	none.Reset()
	holds(t, none, nil)
}

func TestReady(t *testing.T) { // P9.3
	b := made(t, 0, 64, 0)
	var want []item[int]
	for k := range 64 {
		l := api.Line{Irq: states()[k%16], Enabled: k&16 != 0, Group: k / 32, Priority: 8 * (k % 3)}
		put(t, b, k, l, k)
		want = append(want, item[int]{k, bank.Entry[int]{Line: l, Extra: k}})
	}
	holds(t, b, want)
	// Of the 16 states, 5 are ready: the latch is set and it is not active (4), or only the line of a level is high (1).
	for i, ids := range [][]int{{}, {18, 20, 21, 22, 23}, {50, 52, 53, 54, 55}, {18, 20, 21, 22, 23, 50, 52, 53, 54, 55}} {
		var got []int
		for id := range b.Ready(groups()[i]) {
			got = append(got, id)
		}
		if !slices.Equal(got, ids) {
			t.Errorf("Ready(%v): %v, want %v", groups()[i], got, ids)
		}
	}
}

func TestTraversalsKeepToTheTimeOfTheCall(t *testing.T) { // P9.3
	changes := map[string]func(b *bank.Bank[string]){
		"Put":   func(b *bank.Bank[string]) { b.Put(33, bank.Entry[string]{Line: waiting(0, 8), Extra: "z"}) },
		"Do":    func(b *bank.Bank[string]) { b.Do(33, api.Ack); b.Do(34, api.Activate); b.Do(32, api.Set) },
		"Reset": func(b *bank.Bank[string]) { b.Reset() },
	}
	for name, change := range changes {
		b := made(t, 32, 4, "x")
		put(t, b, 33, waiting(1, 160), "y")
		put(t, b, 34, waiting(0, 80), "w")
		every := collect(b.All())
		two := every[1:3]
		all, some, of := b.All(), b.Ready([2]bool{true, true}), bank.Of(b.All(), 1)
		change(b)
		for range 2 {
			if got := collect(all); !slices.Equal(got, every) {
				t.Errorf("All after %s: %v, want %v", name, got, every)
			}
			if got := collect(some); !slices.Equal(got, two) {
				t.Errorf("Ready after %s: %v, want %v", name, got, two)
			}
			if got := collect(of); !slices.Equal(got, two[:1]) {
				t.Errorf("Of after %s: %v, want %v", name, got, two[:1])
			}
		}
		if slices.Equal(collect(b.All()), every) || slices.Equal(collect(b.Ready([2]bool{true, true})), two) {
			t.Errorf("%s has changed nothing", name)
		}
	}
}

func TestLoopsThatChangeTheBank(t *testing.T) { // P9.3
	fill := func() (*bank.Bank[int], []item[int]) {
		b := made(t, 32, 6, 1)
		for id := 32; id < 38; id++ {
			put(t, b, id, waiting(id%2, 8*id-256), id)
		}
		return b, collect(b.All())
	}
	b, want := fill()
	var got []item[int]
	for id, e := range b.All() {
		for other := 32; other < 38; other++ {
			put(t, b, other, api.Line{Priority: 80}, id)
		}
		b.Reset()
		got = append(got, item[int]{id, e})
	}
	if !slices.Equal(got, want) {
		t.Errorf("All: %v, want %v", got, want)
	}
	b, want = fill()
	got = nil
	for id, e := range b.Ready([2]bool{true, true}) {
		for other := 32; other < 38; other++ {
			b.Do(other, api.Ack)
		}
		got = append(got, item[int]{id, e})
	}
	if !slices.Equal(got, want) {
		t.Errorf("Ready: %v, want %v", got, want)
	}
	b, want = fill()
	got = nil
	for id, e := range bank.Of(b.Ready([2]bool{true, true}), 1) {
		b.Reset()
		got = append(got, item[int]{id, e})
	}
	if !slices.Equal(got, inGroup(want, 1)) {
		t.Errorf("Of: %v, want %v", got, inGroup(want, 1))
	}
}

func TestOfYieldsWhatThereIsDuringTheLoop(t *testing.T) { // P9.4, W8
	row := []item[int]{{1, bank.Entry[int]{Line: api.Line{Group: 1}}}, {2, bank.Entry[int]{}}}
	calls := 0
	some := bank.Of(func(yield func(int, bank.Entry[int]) bool) {
		calls++
		of(row)(yield)
	}, 1)
	if calls != 0 {
		t.Errorf("the sequence is gone through %d times before the loop", calls)
	}
	row[1].e.Group = 1
	if got := collect(some); !slices.Equal(got, row) || calls != 1 {
		t.Errorf("Of: %v, want %v; gone through %d times", got, row, calls)
	}
	row[0].e.Group = 0
	if got := collect(some); !slices.Equal(got, row[1:]) || calls != 2 {
		t.Errorf("Of again: %v, want %v; gone through %d times", got, row[1:], calls)
	}
}

func TestOf(t *testing.T) { // P9.4
	var row []item[string]
	for i, group := range ends() {
		row = append(row, item[string]{1000 - i, bank.Entry[string]{Line: api.Line{Group: group, Priority: i}, Extra: "x"}})
	}
	row = append(row, row...)
	for _, group := range append(ends(), 3, -3, 258) {
		want := inGroup(row, group)
		if got := collect(bank.Of(of(row), group)); !slices.Equal(got, want) {
			t.Errorf("Of group %d: %v, want %v", group, got, want)
		}
		if got := bank.Count(bank.Of(of(row), group)); got != len(want) {
			t.Errorf("Count of group %d: %d, want %d", group, got, len(want))
		}
		for _, other := range []int{0, 1, 2, math.MinInt} {
			if got := bank.Count(bank.Of(bank.Of(of(row), group), other)); other != group && got != 0 || other == group && got != len(want) {
				t.Errorf("Of group %d, of group %d: %d", group, other, got)
			}
		}
	}
}

func TestBestAndSorted(t *testing.T) { // P9.4
	for _, x := range []struct {
		row  [][3]int // number, priority, group
		best api.Candidate
		ids  []int
	}{
		{nil, api.Candidate{}, nil},
		{[][3]int{{0, 0, 0}}, api.Candidate{Is: true}, []int{0}},
		{[][3]int{{5, 8, 1}}, api.Candidate{ID: 5, Priority: 8, Group: 1, Is: true}, []int{5}},
		{[][3]int{{5, 255, 0}}, api.Candidate{ID: 5, Priority: 255, Is: true}, []int{5}},
		{[][3]int{{5, 16, 0}, {6, 8, 1}}, api.Candidate{ID: 6, Priority: 8, Group: 1, Is: true}, []int{6, 5}},
		{[][3]int{{5, 8, 0}, {6, 16, 1}}, api.Candidate{ID: 5, Priority: 8, Is: true}, []int{5, 6}},
		{[][3]int{{6, 8, 0}, {5, 8, 1}}, api.Candidate{ID: 5, Priority: 8, Group: 1, Is: true}, []int{5, 6}},
		{[][3]int{{9, 8, 0}, {7, 8, 1}, {8, 8, 1}}, api.Candidate{ID: 7, Priority: 8, Group: 1, Is: true}, []int{7, 8, 9}},
		{[][3]int{{1, 9, 0}, {2, 8, 1}}, api.Candidate{ID: 2, Priority: 8, Group: 1, Is: true}, []int{2, 1}},
		{[][3]int{{1, 8, 0}, {2, 9, 1}, {3, 10, 0}, {0, 10, 0}}, api.Candidate{ID: 1, Priority: 8, Is: true}, []int{1, 2, 0, 3}},
		{[][3]int{{4, 8, 0}, {4, 8, 0}, {3, 8, 0}}, api.Candidate{ID: 3, Priority: 8, Is: true}, []int{3, 4, 4}},
		{[][3]int{{4, 8, 1}, {4, 0, 0}}, api.Candidate{ID: 4, Is: true}, []int{4, 4}},
		{[][3]int{{-1, 8, 0}, {-2, 8, 0}, {0, 8, 0}}, api.Candidate{ID: -2, Priority: 8, Is: true}, []int{-2, -1, 0}},
		{[][3]int{{1, 0, 0}, {2, -1, 5}}, api.Candidate{ID: 2, Priority: -1, Group: 5, Is: true}, []int{2, 1}},
		{[][3]int{{1, math.MaxInt, 0}, {2, math.MinInt, -1}, {3, -1, 0}}, api.Candidate{ID: 2, Priority: math.MinInt, Group: -1, Is: true},
			[]int{2, 3, 1}},
		{[][3]int{{1, math.MaxInt, 7}}, api.Candidate{ID: 1, Priority: math.MaxInt, Group: 7, Is: true}, []int{1}},
		{[][3]int{{math.MaxInt, 8, 0}, {math.MinInt, 8, 1}, {-1, 8, 0}}, api.Candidate{ID: math.MinInt, Priority: 8, Group: 1, Is: true},
			[]int{math.MinInt, -1, math.MaxInt}},
	} {
		var row []item[bool]
		for _, y := range x.row {
			row = append(row, item[bool]{y[0], bank.Entry[bool]{Line: api.Line{Priority: y[1], Group: y[2]}, Extra: true}})
		}
		if c := bank.Best(of(row)); c != x.best {
			t.Errorf("Best of %v: %v, want %v", x.row, c, x.best)
		}
		if ids := bank.Sorted(of(row)); !slices.Equal(ids, x.ids) {
			t.Errorf("Sorted of %v: %v, want %v", x.row, ids, x.ids)
		}
		if n := bank.Count(of(row)); n != len(x.row) {
			t.Errorf("Count of %v: %d", x.row, n)
		}
	}
}

func TestSequencesAreGoneThroughOnce(t *testing.T) { // P9.4
	loops := 0
	some := func(yield func(int, bank.Entry[int]) bool) {
		loops++
		for id := 3; id > 0; id-- {
			if !yield(id, bank.Entry[int]{Line: api.Line{Group: 1}}) {
				t.Error("the sequence is left early")
				return
			}
		}
	}
	if n := bank.Count(some); n != 3 || loops != 1 {
		t.Errorf("Count: %d; gone through %d times", n, loops)
	}
	if c := bank.Best(some); c != (api.Candidate{ID: 1, Group: 1, Is: true}) || loops != 2 {
		t.Errorf("Best: %v; gone through %d times", c, loops-1)
	}
	if ids := bank.Sorted(some); !slices.Equal(ids, []int{1, 2, 3}) || loops != 3 {
		t.Errorf("Sorted: %v; gone through %d times", ids, loops-2)
	}
}

func TestLoopsLeftEarlyAndAgain(t *testing.T) { // P9.3, P9.4, W8
	b := made(t, 10, 9, 0)
	for id := 10; id < 19; id++ {
		put(t, b, id, waiting(id%2, 8*(id%3)), id)
	}
	b.Do(13, api.Ack)
	for _, some := range []iter.Seq2[int, bank.Entry[int]]{
		b.All(), b.Ready([2]bool{true, true}), b.Ready([2]bool{false, true}), bank.Of(b.All(), 1), bank.Of(b.Ready([2]bool{true, true}), 0),
	} {
		want := collect(some)
		if len(want) < 3 {
			t.Fatalf("%d interrupts are too few", len(want))
		}
		for n := range want {
			var got []item[int]
			for id, e := range some {
				if got = append(got, item[int]{id, e}); len(got) > n {
					break
				}
			}
			if !slices.Equal(got, want[:n+1]) {
				t.Errorf("left after %d: %v, want %v", n+1, got, want[:n+1])
			}
			calls := 0
			some(func(int, bank.Entry[int]) bool {
				calls++
				return calls <= n
			})
			if calls != n+1 {
				t.Errorf("left after %d: %d calls", n+1, calls)
			}
		}
		for range 2 {
			agrees(t, "a sequence gone through again", some, want)
		}
		var got []item[int]
		for range some {
			got = append(got, collect(some)...)
		}
		if !slices.Equal(got, slices.Repeat(want, len(want))) {
			t.Errorf("loops within one another: %v", got)
		}
	}
}

func TestOfIsLeftWithItsSequence(t *testing.T) { // P9.4, W8: even one without an end
	yields := 0
	for id, e := range bank.Of(func(yield func(int, bank.Entry[int]) bool) {
		for id := 0; ; id++ {
			yields++
			if !yield(id, bank.Entry[int]{Line: api.Line{Group: id % 4}}) {
				return
			}
		}
	}, 3) {
		if e.Group != 3 {
			t.Errorf("Of group 3: %d, %v", id, e)
		}
		if id >= 11 {
			break
		}
	}
	if yields != 12 {
		t.Errorf("the sequence has yielded %d times", yields)
	}
}

func TestCopy(t *testing.T) { // P9.2, P9.3, W6
	for _, n := range []int{0, 1, 5} {
		b := made(t, 32, n, "x")
		for id := 32; id < 32+n; id++ {
			put(t, b, id, waiting(id%2, 8*id-256), "y")
		}
		want := collect(b.All())
		c := b.Copy()
		if c == nil || c == b {
			t.Fatal("Copy returns no bank of its own")
		}
		holds(t, c, want)
		lacks(t, c, 31)
		lacks(t, c, 32+n)
		if n == 0 {
			continue
		}
		put(t, b, 32, api.Line{Priority: 80}, "z")
		b.Do(33, api.Rise)
		holds(t, c, want)
		b.Reset()
		holds(t, c, want)
		want = collect(b.All())
		c.Do(32, api.Set)
		put(t, c, 31+n, api.Line{Group: 1}, "c")
		holds(t, b, want)
		c.Reset()
		holds(t, b, want)
	}
}

func TestBanksAreIndependent(t *testing.T) { // P9.1, W2
	b, c := made(t, 32, 3, 1), made(t, 32, 3, 2)
	want := collect(c.All())
	put(t, b, 33, waiting(1, 8), 3)
	b.Do(32, api.Set)
	holds(t, c, want)
}

func TestResultsAreNew(t *testing.T) { // P9.2, P9.4, W6
	b := made(t, 32, 3, [2]int{1, 2})
	put(t, b, 33, waiting(1, 80), [2]int{3, 4})
	want := collect(b.All())
	e, _ := b.Get(33)
	e.Extra[0], e.Priority, e.Latch = 9, 9, false
	for _, e := range b.All() {
		e.Extra[1], e.Enabled = 9, false
	}
	for _, e := range b.Ready([2]bool{true, true}) {
		e.Extra[1], e.Enabled = 9, false
	}
	ids := bank.Sorted(b.All())
	ids[0] = 99
	holds(t, b, want)
	if again := bank.Sorted(b.All()); !slices.Equal(again, []int{32, 34, 33}) {
		t.Errorf("Sorted again: %v", again)
	}
}

func TestExtrasOfAnyType(t *testing.T) { // P9.1, P9.2, P9.3, P9.4: some that Go cannot compare among them
	words := made(t, 0, 2, []string{"x"})
	if e, err := words.Get(1); err != api.OK || e.Line != (api.Line{}) || !slices.Equal(e.Extra, []string{"x"}) {
		t.Errorf("Get of a slice: %v, %v", e, err)
	}
	put(t, words, 1, waiting(0, 0), nil)
	if e, err := words.Get(1); err != api.OK || e.Line != waiting(0, 0) || e.Extra != nil {
		t.Errorf("Get of a nil slice: %v, %v", e, err)
	}
	funcs := made(t, 5, 3, func() int { return 7 })
	put(t, funcs, 6, waiting(1, 8), func() int { return 8 })
	sum := 0
	for _, e := range funcs.Copy().All() {
		sum += e.Extra()
	}
	if ids := bank.Sorted(funcs.All()); sum != 22 || !slices.Equal(ids, []int{5, 7, 6}) || bank.Count(bank.Of(funcs.All(), 1)) != 1 {
		t.Errorf("functions: %d, %v", sum, ids)
	}
	anys := made(t, 5, 2, any(map[int]int{}))
	anys.Reset()
	if e, err := anys.Get(6); err != api.OK || e.Extra == nil {
		t.Errorf("Get of an interface: %v, %v", e, err)
	}
	if c := bank.Best(anys.Ready([2]bool{true, true})); c != (api.Candidate{}) {
		t.Errorf("Best: %v", c)
	}
}

func TestEntriesPromoteTheirLine(t *testing.T) { // the chapter's type
	e := bank.Entry[string]{Line: waiting(1, 8), Extra: "x"}
	e.Active = true
	if !e.Line.Irq.Active || !e.Latch || !e.Enabled || e.Line.Group != e.Group || e.Priority != 8 {
		t.Errorf("%v", e)
	}
}

func TestManyChanges(t *testing.T) { // P9.1, P9.2, P9.3, P9.4
	next := roll(9)
	b := made(t, 16000, 24, 1)
	want := collect(b.All())
	other, kept := b, slices.Clone(want)
	numbers := ends()
	for range 6000 {
		k := next(24)
		id := 16000 + k
		switch next(12) {
		case 0, 1, 2, 3, 4:
			l := api.Line{Irq: states()[next(16)], Enabled: next(3) > 0, Group: next(2), Priority: next(256)}
			extra := next(1000)
			put(t, b, id, l, extra)
			l.Priority -= l.Priority % 8
			want[k].e = bank.Entry[int]{Line: l, Extra: extra}
		case 5, 6, 7:
			if err := b.Do(id, api.Ack); err != api.OK {
				t.Fatalf("Do(%d): %v", id, err)
			}
			want[k].e.Irq = acknowledged(want[k].e.Irq)
		case 8:
			b.Do(id, api.Set)
			want[k].e.Latch = true
		case 9:
			if far := numbers[next(len(numbers))]; far < 16000 || far > 16023 {
				lacks(t, b, far)
			}
		case 10:
			other, kept = b.Copy(), slices.Clone(want)
		case 11:
			if next(20) == 0 {
				b.Reset()
				for i := range want {
					want[i].e.Line = api.Line{}
				}
			} else if next(10) == 0 {
				b, other, want, kept = other, b, kept, want
				if b == other {
					other, kept = b.Copy(), slices.Clone(want)
				}
			}
		}
		holds(t, b, want)
		if other != b {
			if got := collect(other.All()); !slices.Equal(got, kept) {
				t.Fatalf("a bank and its copy affect each other: %v, want %v", got, kept)
			}
		}
		if t.Failed() {
			return
		}
	}
}

func TestManySequences(t *testing.T) { // P9.4
	next := roll(99)
	numbers := ends()
	for range 2000 {
		var row []item[int]
		ids := map[int]bool{}
		for range next(40) {
			id, priority, group := next(100)-50, next(20), next(3)
			if next(4) == 0 {
				id, priority = numbers[next(len(numbers))], numbers[next(len(numbers))]
			}
			// No number comes twice: which group Best tells would be open.
			if !ids[id] {
				ids[id] = true
				row = append(row, item[int]{id, bank.Entry[int]{Line: api.Line{Priority: priority, Group: group}, Extra: next(5)}})
			}
		}
		agrees(t, "a row", of(row), row)
	}
}

func TestTheGreatestBank(t *testing.T) { // P9.1, P9.4
	b := made(t, 0, 16384, 0)
	for id := range 16384 {
		put(t, b, id, waiting(id%2, id%256), -id)
	}
	ids := bank.Sorted(b.Ready([2]bool{true, false}))
	if len(ids) != 8192 || ids[0] != 0 || ids[1] != 2 || ids[3] != 6 || ids[4] != 256 || ids[8191] != 16382 {
		t.Errorf("Sorted: %d numbers", len(ids))
	}
	if c := bank.Best(bank.Of(b.All(), 1)); c != (api.Candidate{ID: 1, Group: 1, Is: true}) {
		t.Errorf("Best: %v", c)
	}
}
