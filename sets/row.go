package sets

import (
	"math/bits"

	"crier/api"
)

const wordBits = 64

// row has one bit for each number that may be a member. Because it always has all of them, two sets with the same
// members are equal as values, however they came to have them, and an assignment makes an independent copy.
type row [api.MaxMember / wordBits]uint64

func valid(m int) bool { return 0 <= m && m < api.MaxMember }

// has reports whether the bit of a valid number is 1.
func (r *row) has(m int) bool { return r[m/wordBits]>>(m%wordBits)&1 == 1 }

// flip inverts the bit of a valid number.
func (r *row) flip(m int) { r[m/wordBits] ^= 1 << (m % wordBits) }

// next returns the smallest number from m on whose bit is 1, or MaxMember if there is none; m is not negative.
func (r *row) next(m int) int { return r.seek(m, 0) }

// gap is next for the bits that are 0.
func (r *row) gap(m int) int { return r.seek(m, ^uint64(0)) }

// seek is next for a row whose words are first combined with mask by exclusive or.
func (r *row) seek(m int, mask uint64) int {
	for m < api.MaxMember {
		if w := (r[m/wordBits] ^ mask) >> (m % wordBits); w != 0 {
			return m + bits.TrailingZeros64(w)
		}
		m += wordBits - m%wordBits
	}
	return api.MaxMember
}
