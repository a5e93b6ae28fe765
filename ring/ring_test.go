package ring_test

import (
	"math"
	"slices"
	"testing"

	"crier/api"
	"crier/ring"
)

// valid lists rings of few and of many entries, of small steps and of the greatest ones.
func valid() []ring.Ring {
	return []ring.Ring{
		{1, 1}, {2, 1}, {7, 1}, {96, 32}, {32, 32}, {64, 32}, {15, 5}, {api.MaxEntries, 1},
		{api.MaxEntries * 32, 32}, {api.MaxEntries * 3, 3}, {math.MaxInt, math.MaxInt},
		{math.MaxInt - 1, math.MaxInt / 2}, {math.MaxInt / api.MaxEntries * api.MaxEntries, math.MaxInt / api.MaxEntries},
		{1 << 62, 1 << 52}, {1 << 62, 1 << 62},
	}
}

// invalid lists rings of which one number is wrong, or both are.
func invalid() []ring.Ring {
	return []ring.Ring{
		{}, {0, 1}, {1, 0}, {96, 0}, {96, 40}, {95, 32}, {97, 32}, {31, 32}, {-32, 32}, {32, -32}, {-32, -32}, {-1, -1},
		{-1, 1}, {1, -1}, {0, 32}, {0, -1}, {0, math.MaxInt}, {0, math.MinInt}, {api.MaxEntries + 1, 1},
		{(api.MaxEntries + 1) * 32, 32}, {2 * api.MaxEntries, 1}, {math.MaxInt, 1}, {math.MaxInt, 2}, {math.MaxInt, math.MaxInt - 1},
		{math.MaxInt - 1, math.MaxInt}, {math.MinInt, 1}, {math.MinInt, -1}, {math.MinInt, math.MinInt}, {math.MinInt, 1 << 53},
		{1, math.MinInt}, {math.MaxInt, math.MinInt}, {math.MinInt, math.MaxInt}, {1 << 62, 1 << 51}, {0, 1 << 54}, {1 << 54, 1<<54 + 1},
	}
}

// count returns the number of entries of a valid ring.
func count(r ring.Ring) int { return r.Size / r.Step }

// beside lists positions at which no entry of a valid ring begins, as far as its step leaves any between entries.
func beside(r ring.Ring) []int {
	l := []int{-1, -r.Step, -r.Size, r.Size, math.MinInt, math.MinInt + 1}
	if r.Size < math.MaxInt {
		l = append(l, r.Size+1, math.MaxInt)
	}
	if r.Step > 1 {
		l = append(l, 1, r.Step-1, r.Size-1, r.Size-r.Step+1)
	}
	return l
}

// some lists indices of a ring: all if they are few, otherwise those at both ends.
func some(r ring.Ring) []int {
	var l []int
	for k := range count(r) {
		if k < 8 || k >= count(r)-3 {
			l = append(l, k)
		}
	}
	return l
}

// is reports an answer that is not the one wanted, or an error.
func is(t *testing.T, what string, r ring.Ring, got int, e api.Errno, want int) {
	t.Helper()
	if got != want || e != api.OK {
		t.Errorf("%v: %s: %d, %d, want %d", r, what, got, e, want)
	}
}

// fails reports an answer that is not ErrArg with a zero.
func fails(t *testing.T, what string, r ring.Ring, got int, e api.Errno) {
	t.Helper()
	if got != 0 || e != api.ErrArg {
		t.Errorf("%v: %s: %d, %d, want 0 and ErrArg", r, what, got, e)
	}
}

func TestRight(t *testing.T) { // P2.1
	for _, r := range valid() {
		if e := r.Right(); e != api.OK {
			t.Errorf("%v: %d", r, e)
		}
	}
	for _, r := range invalid() {
		if e := r.Right(); e != api.ErrArg {
			t.Errorf("%v: %d", r, e)
		}
	}
}

func TestRightCountsEntries(t *testing.T) { // P2.1
	for _, step := range []int{1, 2, 32, 1000, math.MaxInt / (api.MaxEntries + 2)} {
		for n := -2; n <= api.MaxEntries+2; n++ {
			r := ring.Ring{Size: n * step, Step: step}
			want := api.ErrArg
			if 1 <= n && n <= api.MaxEntries {
				want = api.OK
			}
			if e := r.Right(); e != want {
				t.Errorf("%v: %d", r, e)
			}
			if step > 2 && (ring.Ring{Size: r.Size + 1, Step: step}).Right() != api.ErrArg {
				t.Errorf("%v and one byte more is valid", r)
			}
		}
	}
}

func TestMay(t *testing.T) { // P2.1
	for _, r := range valid() {
		for _, k := range some(r) {
			if !r.May(k * r.Step) {
				t.Errorf("%v: entry %d does not begin", r, k)
			}
		}
		for _, at := range beside(r) {
			if r.May(at) {
				t.Errorf("%v: an entry begins at %d", r, at)
			}
		}
	}
	for _, r := range invalid() {
		for _, at := range []int{0, 1, -1, 32, r.Size, r.Step, r.Size - r.Step, math.MaxInt, math.MinInt} {
			if r.May(at) {
				t.Errorf("%v: an entry begins at %d", r, at)
			}
		}
	}
}

func TestMayOfEachPosition(t *testing.T) { // P2.1
	r := ring.Ring{Size: 15, Step: 5}
	for at := -20; at < 40; at++ {
		if want := at == 0 || at == 5 || at == 10; r.May(at) != want {
			t.Errorf("May(%d): %v", at, !want)
		}
	}
}

func TestNeighbours(t *testing.T) { // P2.2
	for _, r := range valid() {
		n := count(r)
		for _, k := range some(r) {
			got, e := r.Next(k * r.Step)
			is(t, "Next", r, got, e, (k+1)%n*r.Step)
			got, e = r.Ahead(k * r.Step)
			is(t, "Ahead", r, got, e, (k+n-1)%n*r.Step)
		}
	}
}

func TestIndexAndPlace(t *testing.T) { // P2.2
	for _, r := range valid() {
		for _, k := range some(r) {
			got, e := r.Index(k * r.Step)
			is(t, "Index", r, got, e, k)
			got, e = r.Place(k)
			is(t, "Place", r, got, e, k*r.Step)
		}
		for _, k := range []int{-1, count(r), count(r) + 1, api.MaxEntries, -count(r), math.MaxInt, math.MinInt} {
			got, e := r.Place(k)
			if 0 <= k && k < count(r) {
				continue
			}
			fails(t, "Place", r, got, e)
		}
	}
}

func TestPlacesThatWrapAround(t *testing.T) { // P2.2: an index whose product with the step wraps around to a position
	r := ring.Ring{Size: 1 << 56, Step: 1 << 50}
	for _, k := range []int{1 << 14, 1<<14 + 1, 1 << 20, -1 << 14, 64} {
		got, e := r.Place(k)
		fails(t, "Place", r, got, e)
	}
}

func TestNoNeighboursBesideEntries(t *testing.T) { // P2.2
	try := func(r ring.Ring, at int) {
		got, e := r.Next(at)
		fails(t, "Next", r, got, e)
		got, e = r.Ahead(at)
		fails(t, "Ahead", r, got, e)
		got, e = r.Index(at)
		fails(t, "Index", r, got, e)
	}
	for _, r := range valid() {
		for _, at := range beside(r) {
			try(r, at)
		}
	}
	for _, r := range invalid() {
		for _, at := range []int{0, 1, -1, r.Step, r.Size, math.MaxInt, math.MinInt} {
			try(r, at)
			got, e := r.Place(at)
			fails(t, "Place", r, got, e)
		}
	}
}

// waiting steps from one index to another and tells the positions that it comes by.
func waiting(r ring.Ring, from, to int) []int {
	var l []int
	for k := from; k != to; k = (k + 1) % count(r) {
		l = append(l, k*r.Step)
	}
	return l
}

func TestWaitingEntries(t *testing.T) { // P2.3
	for _, r := range valid() {
		for _, from := range some(r) {
			for _, to := range some(r) {
				read, write, want := from*r.Step, to*r.Step, waiting(r, from, to)
				got, e := r.Left(read, write)
				is(t, "Left", r, got, e, len(want))
				got, e = r.Room(read, write)
				is(t, "Room", r, got, e, count(r)-1-len(want))
				if l := slices.Collect(r.Each(read, write)); !slices.Equal(l, want) {
					t.Errorf("%v: Each(%d, %d): %v, want %v", r, read, write, l, want)
				}
				for _, k := range some(r) {
					if at := k * r.Step; r.Waits(read, write, at) != slices.Contains(want, at) {
						t.Errorf("%v: Waits(%d, %d, %d): %v", r, read, write, at, r.Waits(read, write, at))
					}
				}
				for _, at := range beside(r) {
					if r.Waits(read, write, at) {
						t.Errorf("%v: something waits at %d", r, at)
					}
				}
			}
		}
	}
}

func TestEmptyAndFull(t *testing.T) { // P2.3
	r := ring.Ring{Size: api.MaxEntries * 32, Step: 32}
	for _, c := range []struct{ read, write, left int }{
		{0, 0, 0}, {r.Size - 32, r.Size - 32, 0}, {512, 512, 0}, {0, r.Size - 32, api.MaxEntries - 1},
		{32, 0, api.MaxEntries - 1}, {512, 480, api.MaxEntries - 1}, {r.Size - 32, 0, 1}, {0, 32, 1}, {r.Size - 32, r.Size - 64, api.MaxEntries - 1},
	} {
		got, e := r.Left(c.read, c.write)
		is(t, "Left", r, got, e, c.left)
		got, e = r.Room(c.read, c.write)
		is(t, "Room", r, got, e, api.MaxEntries-1-c.left)
	}
	one := ring.Ring{Size: 32, Step: 32}
	got, e := one.Left(0, 0)
	is(t, "Left", one, got, e, 0)
	got, e = one.Room(0, 0)
	is(t, "Room", one, got, e, 0)
	if one.Waits(0, 0, 0) {
		t.Error("an entry waits in a ring that is always empty")
	}
}

func TestNothingWaitsBesideEntries(t *testing.T) { // P2.3
	try := func(r ring.Ring, read, write int) {
		got, e := r.Left(read, write)
		fails(t, "Left", r, got, e)
		got, e = r.Room(read, write)
		fails(t, "Room", r, got, e)
		if l := slices.Collect(r.Each(read, write)); len(l) != 0 {
			t.Errorf("%v: Each(%d, %d): %v", r, read, write, l)
		}
		for _, at := range []int{0, r.Step, read, write} {
			if r.Waits(read, write, at) {
				t.Errorf("%v: Waits(%d, %d, %d)", r, read, write, at)
			}
		}
	}
	for _, r := range valid() {
		for _, at := range beside(r) {
			try(r, at, 0)
			try(r, 0, at)
			try(r, at, at)
		}
	}
	for _, r := range invalid() {
		for _, at := range []int{0, 1, r.Step, r.Size, math.MaxInt, math.MinInt} {
			try(r, at, 0)
			try(r, 0, at)
			try(r, at, at)
		}
	}
}

func TestLoopsLeftEarlyAndAgain(t *testing.T) { // P2.3, W8
	each := (ring.Ring{Size: 160, Step: 32}).Each(96, 64)
	want := []int{96, 128, 0, 32}
	for n := range want {
		var l []int
		for at := range each {
			if l = append(l, at); len(l) > n {
				break
			}
		}
		if !slices.Equal(l, want[:n+1]) {
			t.Errorf("left after %d: %v", n+1, l)
		}
	}
	for range 2 {
		if l := slices.Collect(each); !slices.Equal(l, want) {
			t.Error("gone through again:", l)
		}
	}
	var nested []int
	for a := range each {
		for b := range each {
			nested = append(nested, a+b)
		}
	}
	if len(nested) != 16 || nested[0] != 192 || nested[5] != 256 || nested[15] != 64 {
		t.Error("loops within one another:", nested)
	}
}

func TestEachKeepsItsRing(t *testing.T) { // P2.3
	r := ring.Ring{Size: 96, Step: 32}
	each := r.Each(64, 32)
	r.Size, r.Step = 8, 4
	if l := slices.Collect(each); !slices.Equal(l, []int{64, 0}) {
		t.Error(l)
	}
}

func TestChapterExamples(t *testing.T) {
	r := ring.Ring{Size: 96, Step: 32}
	got, e := r.Next(64)
	is(t, "Next", r, got, e, 0)
	got, e = r.Ahead(0)
	is(t, "Ahead", r, got, e, 64)
	got, e = r.Left(64, 32)
	is(t, "Left", r, got, e, 2)
	got, e = r.Room(64, 32)
	is(t, "Room", r, got, e, 0)
	if l := slices.Collect(r.Each(64, 32)); !slices.Equal(l, []int{64, 0}) {
		t.Error(l)
	}
	if r.May(33) {
		t.Error("an entry begins at 33")
	}
	got, e = r.Place(3)
	fails(t, "Place", r, got, e)
	if (ring.Ring{Size: 96, Step: 40}).Right() != api.ErrArg {
		t.Error("a size that is no multiple of the step")
	}
}
