package lr_test

import (
	"math"
	"slices"

	"crier/api"
)

// ends lists numbers on both sides of those that the chapter names, and at both ends of int.
func ends() []int {
	return []int{
		math.MinInt, math.MinInt + 1, math.MinInt + 160, -1 << 32, -1<<32 + 1, -8192, -1024, -256, -248, -8, -4, -3, -2, -1, 0, 1, 2, 3, 4, 5, 7, 8, 9, 15,
		16, 31, 32, 33, 63, 64, 160, 247, 248, 249, 255, 256, 264, 511, 512, 1016, 1018, 1019, 1020, 1023, 1024, 1025, 4096, 8184, 8191, 8192, 8193, 9000,
		16376, 16382, 16383, 16384, 16385, 24576, 1 << 16, 1 << 31, 1<<32 - 1, 1 << 32, 1<<32 + 1, 1<<32 + 8, 1<<32 + 8192, 1 << 62, math.MaxInt - 7,
		math.MaxInt - 1, math.MaxInt,
	}
}

// roll returns a source of numbers below a given one, which depend on seed alone.
func roll(seed int) func(n int) int {
	x := uint64(seed)*2 + 1
	return func(n int) int {
		x = x*6364136223846793005 + 1442695040888963407
		return int(x >> 33 % uint64(n))
	}
}

// word returns a number of 64 bits.
func word(next func(n int) int) uint64 {
	return uint64(next(1<<31))<<33 | uint64(next(1<<31))<<2 | uint64(next(4))
}

// one returns an element of a slice.
func one[T any](next func(n int) int, of []T) T { return of[next(len(of))] }

// may reports whether a list register may be: field by field.
func may(l api.List) bool {
	switch l.State {
	case 0, 1, 2, 3:
	default:
		return false
	}
	message := false
	switch {
	case l.Number < 0, l.Number > 16383:
		return false
	case l.Number <= 1019:
	case l.Number <= 8191:
		return false
	default:
		message = true
	}
	if l.Priority < 0 || l.Priority > 255 || l.Priority%8 != 0 {
		return false
	}
	if l.Group < 0 || l.Group > 1 || l.Machine < 0 || l.Machine > 1023 {
		return false
	}
	if l.Hard {
		return !l.Tell && !message
	}
	return l.Machine == 0 && (!message || l.State == 0 || l.State == 1)
}

// encoded returns the number of a list register that may be: bit by bit.
func encoded(l api.List) uint64 {
	v := uint64(0)
	put := func(n, first, count int) {
		for k := range count {
			if n>>k%2 == 1 {
				v += 1 << (first + k)
			}
		}
	}
	put(l.Number, 0, 32)
	put(l.Machine, 32, 10)
	put(l.Priority, 48, 8)
	put(l.Group, 60, 1)
	put(int(l.State), 62, 2)
	if l.Tell {
		put(1, 41, 1)
	}
	if l.Hard {
		put(1, 61, 1)
	}
	return v
}

// decoded returns the list register that has a number, and whether there is one: bit by bit.
func decoded(v uint64) (api.List, bool) {
	take := func(first, count int) int {
		n := 0
		for k := range count {
			n += int(v>>(first+k)%2) << k
		}
		return n
	}
	l := api.List{Number: take(0, 32), Priority: take(48, 8), Group: take(60, 1), State: api.ListState(take(62, 2))}
	odd := take(42, 6) != 0 || take(56, 4) != 0
	if take(61, 1) == 1 {
		l.Hard, l.Machine = true, take(32, 10)
	} else {
		l.Tell = take(41, 1) == 1
		odd = odd || take(32, 9) != 0
	}
	if odd || !may(l) {
		return api.List{}, false
	}
	return l, true
}

// kind is what the chapter asks of a list register so that its index is yielded.
type kind func(l api.List) bool

func free(l api.List) bool  { return l.State == 0 }
func used(l api.List) bool  { return l.State != 0 }
func waits(l api.List) bool { return l.State == 1 }

func done(l api.List) bool {
	switch {
	case l.State != 0, l.Hard:
		return false
	}
	return l.Tell
}

// places lists the indices of the list registers of a kind.
func places(ls []api.List, is kind) []int {
	var all []int
	for i := 0; i < len(ls); i++ {
		if is(ls[i]) {
			all = append(all, i)
		}
	}
	return all
}

// find returns what Find should.
func find(ls []api.List, number int) int {
	return slices.IndexFunc(ls, func(l api.List) bool { return used(l) && l.Number == number })
}

// best returns what Best should: the first one after a sort that keeps the order of equal ones.
func best(ls []api.List) api.Candidate {
	var all []api.List
	for _, i := range places(ls, waits) {
		all = append(all, ls[i])
	}
	slices.SortStableFunc(all, func(a, b api.List) int {
		switch {
		case a.Priority < b.Priority:
			return -1
		case a.Priority > b.Priority:
			return 1
		case a.Number < b.Number:
			return -1
		case a.Number > b.Number:
			return 1
		}
		return 0
	})
	if len(all) == 0 {
		return api.Candidate{}
	}
	return api.Candidate{ID: all[0].Number, Priority: all[0].Priority, Group: all[0].Group, Is: true}
}

// right returns what Right should.
func right(ls []api.List) api.Errno {
	if len(ls) > 16 {
		return api.ErrArg
	}
	numbers := map[int]int{}
	for _, l := range ls {
		if !may(l) {
			return api.ErrList
		}
		if used(l) {
			numbers[l.Number]++
		}
	}
	for _, n := range numbers {
		if n > 1 {
			return api.ErrList
		}
	}
	return api.OK
}

// good returns a list register that may be, with one of few numbers and priorities, so that some are equal.
func good(next func(n int) int) api.List {
	l := api.List{
		State:    api.ListState(next(4)),
		Number:   one(next, []int{0, 1, 15, 16, 31, 32, 33, 40, 41, 42, 50, 1018, 1019, 8192, 8193, 8200, 16383}),
		Priority: 8 * next(4) * next(11),
		Group:    next(2),
	}
	if l.Number >= 8192 {
		l.State, l.Tell = l.State&1, next(2) == 1
		return l
	}
	switch next(4) {
	case 0:
		l.Hard, l.Machine = true, one(next, []int{0, 1, 32, 35, 511, 512, 1023})
	case 1:
		l.Tell = true
	}
	return l
}

// anyList returns a list register that may be, with up to two of its fields changed to any number.
func anyList(next func(n int) int) api.List {
	l := good(next)
	for range next(3) {
		switch next(7) {
		case 0:
			l.State = api.ListState(one(next, ends()))
		case 1:
			l.Number = one(next, ends())
		case 2:
			l.Priority = one(next, ends())
		case 3:
			l.Group = one(next, ends())
		case 4:
			l.Hard = !l.Hard
		case 5:
			l.Machine = one(next, ends())
		case 6:
			l.Tell = !l.Tell
		}
	}
	return l
}

// row returns so many list registers.
func row(n int, next func(n int) int, of func(next func(n int) int) api.List) []api.List {
	ls := make([]api.List, n)
	for i := range ls {
		ls[i] = of(next)
	}
	return ls
}
