package irq_test

import (
	"math"
	"slices"
	"strings"
	"testing"

	"crier/api"
	"crier/irq"
)

// named is a state, what the chapter says of it, and the texts of its states after each act, from Rise to ToLevel.
type named struct {
	text  string
	state api.Irq
	phase int
	after string
}

// states lists all states there are.
func states() []named {
	return []named{
		{"l", api.Irq{}, 0, "lh l lw l l l la e l"},
		{"lh", api.Irq{Line: true}, 1, "lh l lhw lh lha lh lha eh lh"},
		{"lw", api.Irq{Latch: true}, 1, "lhw lw lw l la lw lwa ew lw"},
		{"lhw", api.Irq{Line: true, Latch: true}, 1, "lhw lw lhw lh lha lhw lhwa ehw lhw"},
		{"la", api.Irq{Active: true}, 2, "lha la lwa la la l la ea la"},
		{"lha", api.Irq{Line: true, Active: true}, 3, "lha la lhwa lha lha lh lha eha lha"},
		{"lwa", api.Irq{Latch: true, Active: true}, 3, "lhwa lwa lwa la lwa lw lwa ewa lwa"},
		{"lhwa", api.Irq{Line: true, Latch: true, Active: true}, 3, "lhwa lwa lhwa lha lhwa lhw lhwa ehwa lhwa"},
		{"e", api.Irq{Edge: true}, 0, "ehw e ew e e e ea e l"},
		{"eh", api.Irq{Edge: true, Line: true}, 0, "eh e ehw eh eh eh eha eh lh"},
		{"ew", api.Irq{Edge: true, Latch: true}, 1, "ehw ew ew e ea ew ewa ew lw"},
		{"ehw", api.Irq{Edge: true, Line: true, Latch: true}, 1, "ehw ew ehw eh eha ehw ehwa ehw lhw"},
		{"ea", api.Irq{Edge: true, Active: true}, 2, "ehwa ea ewa ea ea e ea ea la"},
		{"eha", api.Irq{Edge: true, Line: true, Active: true}, 2, "eha ea ehwa eha eha eh eha eha lha"},
		{"ewa", api.Irq{Edge: true, Latch: true, Active: true}, 3, "ehwa ewa ewa ea ewa ew ewa ewa lwa"},
		{"ehwa", api.Irq{Edge: true, Line: true, Latch: true, Active: true}, 3, "ehwa ewa ehwa eha ehwa ehw ehwa ehwa lhwa"},
	}
}

// acts lists all acts there are, in the order of the table.
func acts() []api.Act {
	return []api.Act{api.Rise, api.Fall, api.Set, api.Clear, api.Ack, api.End, api.Activate, api.ToEdge, api.ToLevel}
}

// others lists numbers that are no acts.
func others() []api.Act {
	return []api.Act{
		math.MinInt, math.MinInt + 1, -1 << 32, -256, -9, -2, -1, 0, api.ToLevel + 1, 11, 16, 77, 256, 257, 1<<32 + 1, 1 << 62, math.MaxInt - 1, math.MaxInt,
	}
}

// state returns the state with a text; the test ends if there is none.
func state(t *testing.T, text string) api.Irq {
	t.Helper()
	for _, x := range states() {
		if x.text == text {
			return x.state
		}
	}
	t.Fatalf("no state %q", text)
	return api.Irq{}
}

// texts returns the texts of the states that Play yields, with a blank between them.
func texts(s api.Irq, acts ...api.Act) string {
	var l []string
	for x := range irq.Play(s, acts...) {
		l = append(l, irq.Text(x))
	}
	return strings.Join(l, " ")
}

// roll returns a source of numbers below a given one, which depend on seed alone.
func roll(seed int) func(n int) int {
	x := uint64(seed)*2 + 1
	return func(n int) int {
		x = x*6364136223846793005 + 1442695040888963407
		return int(x >> 33 % uint64(n))
	}
}

func TestExamples(t *testing.T) { // P7.1 to P7.3
	s := api.Irq{Line: true}
	if !irq.Pending(s) || !irq.Ready(s) || irq.Phase(s) != 1 {
		t.Errorf("a high line: %v, %v, %d", irq.Pending(s), irq.Ready(s), irq.Phase(s))
	}
	s = irq.Step(s, api.Ack)
	if !s.Active || !irq.Pending(s) || irq.Phase(s) != 3 {
		t.Errorf("after Ack: %+v, %v, %d", s, irq.Pending(s), irq.Phase(s))
	}
	if s = irq.After(s, api.Fall, api.End); irq.Phase(s) != 0 {
		t.Errorf("after Fall and End: %d", irq.Phase(s))
	}
	if text := irq.Text(irq.After(api.Irq{Edge: true}, api.Rise, api.Ack, api.Fall, api.Rise)); text != "ehwa" {
		t.Errorf("Text: %q", text)
	}
	if s, e := irq.Parse("lwh"); s != (api.Irq{}) || e != api.ErrArg {
		t.Errorf("Parse: %+v, %d", s, e)
	}
}

func TestTheStatesOfTheTestsAreAll(t *testing.T) {
	var seen []api.Irq
	for _, x := range states() {
		if slices.Contains(seen, x.state) {
			t.Errorf("%s: twice", x.text)
		}
		seen = append(seen, x.state)
	}
	if len(seen) != 16 {
		t.Errorf("%d states, want 16", len(seen))
	}
}

func TestProperties(t *testing.T) { // P7.1
	for _, x := range states() {
		if got, want := irq.Pending(x.state), x.phase == 1 || x.phase == 3; got != want {
			t.Errorf("Pending of %s: %v", x.text, got)
		}
		if got, want := irq.Ready(x.state), x.phase == 1; got != want {
			t.Errorf("Ready of %s: %v", x.text, got)
		}
		if got := irq.Phase(x.state); got != x.phase {
			t.Errorf("Phase of %s: %d, want %d", x.text, got, x.phase)
		}
	}
}

func TestStep(t *testing.T) { // P7.2
	for _, x := range states() {
		after := strings.Fields(x.after)
		if len(after) != len(acts()) {
			t.Fatalf("%s: %d states, want %d", x.text, len(after), len(acts()))
		}
		for i, a := range acts() {
			if got, want := irq.Step(x.state, a), state(t, after[i]); got != want {
				t.Errorf("%s after act %d: %+v, want %+v", x.text, a, got, want)
			}
		}
	}
}

func TestStepOfOtherActs(t *testing.T) { // P7.2
	for _, x := range states() {
		for _, a := range others() {
			if got := irq.Step(x.state, a); got != x.state {
				t.Errorf("%s after act %d: %+v", x.text, a, got)
			}
		}
		for a := -300; a <= 600; a++ {
			if known := slices.Contains(acts(), api.Act(a)); !known && irq.Step(x.state, api.Act(a)) != x.state {
				t.Errorf("%s after act %d: changed", x.text, a)
			}
		}
	}
}

func TestStepLeavesItsArgumentAlone(t *testing.T) { // P7.2, W6
	s := api.Irq{Edge: true}
	for range 2 {
		if got, want := irq.Step(s, api.Rise), (api.Irq{Edge: true, Line: true, Latch: true}); got != want {
			t.Errorf("Step: %+v, want %+v", got, want)
		}
		if s != (api.Irq{Edge: true}) {
			t.Errorf("changed: %+v", s)
		}
	}
}

func TestPlay(t *testing.T) { // P7.2
	for _, x := range []struct {
		from string
		acts []api.Act
		want string
	}{
		{"e", []api.Act{api.Rise, api.Ack, api.Fall, api.Rise}, "ehw eha ea ehwa"},
		{"l", []api.Act{api.Rise, api.Ack, api.Rise, api.End, api.Ack, api.Fall, api.End}, "lh lha lha lh lha la l"},
		{"lh", []api.Act{api.Set, api.Ack, api.End, api.Ack}, "lhw lha lh lha"},
		{"l", []api.Act{api.Set, api.Ack, api.Set, api.Ack, api.End, api.Ack, api.End, api.Ack}, "lw la lwa lwa lw la l l"},
		{"e", []api.Act{api.Rise, api.Rise, api.Clear, api.Rise, api.Fall, api.Rise}, "ehw ehw eh eh e ehw"},
		{"l", []api.Act{api.Rise, api.ToEdge, api.Rise, api.Ack, api.ToLevel, api.Ack}, "lh eh eh eh lh lha"},
		{"e", []api.Act{api.Rise, api.ToLevel, api.Fall, api.Ack}, "ehw lhw lw la"},
		{"l", []api.Act{api.Activate, api.Set, api.Clear, api.Activate, api.End, api.End}, "la lwa la la l l"},
		{"la", []api.Act{0, api.Rise, 77, -1, api.End, math.MinInt, math.MaxInt}, "la lha lha lha lh lh lh"},
		{"ew", []api.Act{api.Ack}, "ea"}, {"ew", []api.Act{99}, "ew"},
	} {
		s := state(t, x.from)
		if got := texts(s, x.acts...); got != x.want {
			t.Errorf("%s, acts %v: %s, want %s", x.from, x.acts, got, x.want)
		}
		last := x.want[strings.LastIndex(x.want, " ")+1:]
		if got := irq.After(s, x.acts...); got != state(t, last) {
			t.Errorf("%s, acts %v: %+v, want %s", x.from, x.acts, got, last)
		}
	}
}

func TestPlayOfNoActs(t *testing.T) { // P7.2
	for _, x := range states() {
		for _, none := range [][]api.Act{nil, {}, make([]api.Act, 0, 4)} {
			for s := range irq.Play(x.state, none...) {
				t.Errorf("%s: %+v", x.text, s)
			}
			if got := irq.After(x.state, none...); got != x.state {
				t.Errorf("After of %s: %+v", x.text, got)
			}
		}
		for s := range irq.Play(x.state) {
			t.Errorf("%s: %+v", x.text, s)
		}
		if got := irq.After(x.state); got != x.state {
			t.Errorf("After of %s: %+v", x.text, got)
		}
	}
}

func TestPlayOfEachTwoActs(t *testing.T) { // P7.2
	for _, x := range states() {
		for i, a := range acts() {
			one := strings.Fields(x.after)[i]
			for k, b := range acts() {
				two := ""
				for _, y := range states() {
					if y.text == one {
						two = strings.Fields(y.after)[k]
					}
				}
				if got := texts(x.state, a, b); got != one+" "+two {
					t.Errorf("%s, acts %d and %d: %s, want %s %s", x.text, a, b, got, one, two)
				}
				if got := irq.After(x.state, a, b); got != state(t, two) {
					t.Errorf("%s after acts %d and %d: %+v, want %s", x.text, a, b, got, two)
				}
			}
		}
	}
}

func TestLoopsLeftEarlyAndAgain(t *testing.T) { // P7.2, W8
	each := irq.Play(api.Irq{Edge: true}, api.Rise, api.Ack, api.Fall, api.Rise)
	want := []string{"ehw", "eha", "ea", "ehwa"}
	for n := range want {
		var l []string
		for s := range each {
			if l = append(l, irq.Text(s)); len(l) > n {
				break
			}
		}
		if !slices.Equal(l, want[:n+1]) {
			t.Errorf("left after %d: %v", n+1, l)
		}
	}
	for range 2 {
		var l []string
		for s := range each {
			l = append(l, irq.Text(s))
		}
		if !slices.Equal(l, want) {
			t.Errorf("gone through again: %v", l)
		}
	}
}

func TestNothingIsYieldedAfterTheLoopIsLeft(t *testing.T) { // P7.2, W8
	for n := 1; n <= 4; n++ {
		calls := 0
		irq.Play(api.Irq{}, api.Rise, api.Fall, api.Set, api.Clear)(func(api.Irq) bool {
			calls++
			return calls < n
		})
		if calls != n {
			t.Errorf("left after %d: %d calls", n, calls)
		}
	}
}

func TestLoopsWithinOneAnother(t *testing.T) { // P7.2, W8
	one, other := irq.Play(api.Irq{}, api.Rise, api.Ack), irq.Play(api.Irq{Edge: true}, api.Set, api.Ack)
	var same, two []string
	for a := range one {
		for b := range one {
			same = append(same, irq.Text(a)+irq.Text(b))
		}
		for b := range other {
			two = append(two, irq.Text(a)+irq.Text(b))
		}
	}
	if want := []string{"lhlh", "lhlha", "lhalh", "lhalha"}; !slices.Equal(same, want) {
		t.Errorf("one iterator: %v, want %v", same, want)
	}
	if want := []string{"lhew", "lhea", "lhaew", "lhaea"}; !slices.Equal(two, want) {
		t.Errorf("two iterators: %v, want %v", two, want)
	}
}

func TestPlayNeitherChangesNorKeepsTheActs(t *testing.T) { // P7.2, W6
	given := []api.Act{api.Rise, api.Ack, api.Fall, api.End}
	each := irq.Play(api.Irq{}, given[:3]...)
	var l []string
	for s := range each {
		l = append(l, irq.Text(s))
	}
	if got := irq.After(api.Irq{}, given[:3]...); got != (api.Irq{Active: true}) {
		t.Errorf("After: %+v", got)
	}
	if !slices.Equal(given, []api.Act{api.Rise, api.Ack, api.Fall, api.End}) {
		t.Errorf("changed: %v", given)
	}
	for i := range given {
		given[i] = api.ToEdge
	}
	for s := range each {
		l = append(l, irq.Text(s))
	}
	if want := []string{"lh", "lha", "la", "lh", "lha", "la"}; !slices.Equal(l, want) {
		t.Errorf("with a change between the loops: %v, want %v", l, want)
	}
}

func TestManyActs(t *testing.T) { // P7.2
	next := roll(7)
	all := slices.Concat(acts(), others())
	given := make([]api.Act, 20000)
	for i := range given {
		given[i] = all[next(len(all))]
	}
	now, n := "e", 0
	for s := range irq.Play(api.Irq{Edge: true}, given...) {
		if i := slices.Index(acts(), given[n]); i >= 0 {
			for _, x := range states() {
				if x.text == now {
					now = strings.Fields(x.after)[i]
					break
				}
			}
		}
		if n++; irq.Text(s) != now {
			t.Fatalf("after %d acts: %s, want %s", n, irq.Text(s), now)
		}
	}
	if n != len(given) {
		t.Errorf("%d states, want %d", n, len(given))
	}
	if got := irq.Text(irq.After(api.Irq{Edge: true}, given...)); got != now {
		t.Errorf("After: %s, want %s", got, now)
	}
}

func TestText(t *testing.T) { // P7.3
	for _, x := range states() {
		if got := irq.Text(x.state); got != x.text {
			t.Errorf("Text of %+v: %q, want %q", x.state, got, x.text)
		}
	}
}

func TestParse(t *testing.T) { // P7.3
	for _, x := range states() {
		if s, e := irq.Parse(x.text); s != x.state || e != api.OK {
			t.Errorf("Parse(%q): %+v, %d", x.text, s, e)
		}
	}
}

// refused reports an answer of Parse that is not ErrArg with the zero state.
func refused(t *testing.T, text string) {
	t.Helper()
	if s, e := irq.Parse(text); s != (api.Irq{}) || e != api.ErrArg {
		t.Errorf("Parse(%q): %+v, %d", text, s, e)
	}
}

func TestParseOfWrongTexts(t *testing.T) { // P7.3, W3
	for _, text := range []string{
		"", " ", "h", "w", "a", "hw", "hwa", "ha", "wa", "el", "le", "ee", "ll", "ehl", "lhe", "elhwa", "lehwa", "lwh", "lah", "law", "ewh", "eah", "eaw",
		"ehaw", "ewha", "eawh", "lhaw", "awhl", "he", "wl", "al", "lhh", "lww", "laa", "ehwaa", "ehwaehwa", "lhwal", "lx", "lhx", "xl", "lhwax", "l h",
		" l", "l ", "\tl", "l\n", "l\x00", "\x00", "\x00l", "L", "E", "LH", "lH", "lW", "lA", "EHWA", "eHwa", "l,h", "l-", "-l", "0", "1", "l\u00e9", "\u00e9l", "\u0435",
		"\uff45", "l\u0301", "\u200bl", "\ufeffl", "\xff", "l\xff", "\xffl", "l\xc3", "edge", "level", "ehwa ", strings.Repeat("l", 100000),
		"e" + strings.Repeat("hwa", 100000), strings.Repeat("\x00", 100000),
	} {
		refused(t, text)
	}
}

func TestParseOfEachShortText(t *testing.T) { // P7.3
	const letters = "elhwa xLHA\x00"
	right := 0
	level := []string{""}
	for range 5 {
		var longer []string
		for _, text := range level {
			for i := range len(letters) {
				longer = append(longer, text+letters[i:i+1])
			}
		}
		for _, text := range longer {
			i := slices.IndexFunc(states(), func(x named) bool { return x.text == text })
			if i < 0 {
				refused(t, text)
				continue
			}
			right++
			if s, e := irq.Parse(text); s != states()[i].state || e != api.OK {
				t.Errorf("Parse(%q): %+v, %d", text, s, e)
			}
		}
		level = longer
	}
	if right != len(states()) {
		t.Errorf("%d texts are right, want %d", right, len(states()))
	}
}

func TestShown(t *testing.T) { // P7.3
	for _, x := range states() {
		for _, y := range states() {
			if got, want := irq.Shown(x.state, y.state), x.phase == y.phase; got != want {
				t.Errorf("Shown(%s, %s): %v", x.text, y.text, got)
			}
		}
	}
}
