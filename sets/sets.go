// Package sets implements a set of small integers: layer 1.
package sets

import (
	"iter"
	"math/bits"

	"crier/api"
)

// Member is the constraint of a set's members: any type of whole numbers that is an int underneath.
type Member interface{ ~int }

// Set is a set of numbers from 0 to MaxMember - 1.
type Set[M Member] struct{ members row }

// Of returns a new set of those numbers that may be members.
func Of[M Member](ms ...M) *Set[M] {
	s := &Set[M]{}
	for _, m := range ms {
		s.Put(m)
	}
	return s
}

// Put adds a number, and reports whether it is a new member.
func (s *Set[M]) Put(m M) bool {
	if !valid(int(m)) || s.members.has(int(m)) {
		return false
	}
	s.members.flip(int(m))
	return true
}

// Take removes a number, and reports whether it was a member.
func (s *Set[M]) Take(m M) bool {
	if !s.Has(m) {
		return false
	}
	s.members.flip(int(m))
	return true
}

// Has reports whether a number is a member.
func (s *Set[M]) Has(m M) bool { return valid(int(m)) && s.members.has(int(m)) }

// Len returns the number of members.
func (s *Set[M]) Len() int {
	n := 0
	for _, w := range s.members {
		n += bits.OnesCount64(w)
	}
	return n
}

// Least returns the smallest member, if there is one.
func (s *Set[M]) Least() (M, bool) {
	m := s.members.next(0)
	if m == api.MaxMember {
		return 0, false
	}
	return M(m), true
}

// Most returns the greatest member, if there is one.
func (s *Set[M]) Most() (M, bool) {
	for i := len(s.members) - 1; i >= 0; i-- {
		if w := s.members[i]; w != 0 {
			return M(i*wordBits + bits.Len64(w) - 1), true
		}
	}
	return 0, false
}

// From yields the members of the time of the call that are at least m, in increasing order.
func (s *Set[M]) From(m M) iter.Seq[M] {
	// A copy, so that a loop may change the set.
	now, first := s.members, max(int(m), 0)
	return func(yield func(M) bool) {
		for at := now.next(first); at < api.MaxMember; at = now.next(at + 1) {
			if !yield(M(at)) {
				return
			}
		}
	}
}

// All yields the members of the time of the call, in increasing order.
func (s *Set[M]) All() iter.Seq[M] { return s.From(0) }

// Runs yields, for the members of the time of the call, the first and the last one of each maximal sequence of
// consecutive numbers, in increasing order.
func (s *Set[M]) Runs() iter.Seq2[M, M] {
	now := s.members
	return func(yield func(M, M) bool) {
		for first := now.next(0); first < api.MaxMember; {
			end := now.gap(first)
			if !yield(M(first), M(end-1)) {
				return
			}
			first = now.next(end)
		}
	}
}

// Copy returns a new set with the same members.
func (s *Set[M]) Copy() *Set[M] { return &Set[M]{members: s.members} }

// Union returns a new set of the members of s and those of t.
func Union[M Member](s, t *Set[M]) *Set[M] {
	return combine(s, t, func(a, b uint64) uint64 { return a | b })
}

// Meet returns a new set of the members that s and t share.
func Meet[M Member](s, t *Set[M]) *Set[M] {
	return combine(s, t, func(a, b uint64) uint64 { return a & b })
}

// Less returns a new set of the members of s that t lacks.
func Less[M Member](s, t *Set[M]) *Set[M] {
	return combine(s, t, func(a, b uint64) uint64 { return a &^ b })
}

// Same reports whether s and t have the same members.
func Same[M Member](s, t *Set[M]) bool { return s.members == t.members }

func combine[M Member](s, t *Set[M], join func(a, b uint64) uint64) *Set[M] {
	u := &Set[M]{}
	for i := range u.members {
		u.members[i] = join(s.members[i], t.members[i])
	}
	return u
}
