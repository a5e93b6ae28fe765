package lpi_test

import (
	"bytes"
	"math"
	"slices"
	"testing"

	"crier/api"
	"crier/lpi"
	"crier/mem"
)

// model is what message interrupts should be: all of it lies open, and its memory is a slice of bytes.
type model struct {
	on         bool
	many       int
	prop, pend int    // where its tables begin
	known      []byte // the configuration that was read last
	waits      []bool // what it records itself, while it is on
}

func newModel(many, prop, pend int) *model {
	return &model{many: many, prop: prop, pend: pend, known: make([]byte, many), waits: make([]bool, many)}
}

func (m *model) clone() *model {
	c := *m
	c.known, c.waits = slices.Clone(m.known), slices.Clone(m.waits)
	return &c
}

func (m *model) has(b []byte, id int) bool {
	k := id - 8192
	if id < 8192 || k >= m.many {
		return false
	}
	if m.on {
		return m.waits[k]
	}
	return bit(b, 8*m.pend+k)
}

func (m *model) set(b []byte, id int, is bool) (bool, api.Errno) {
	if id < 8192 || id >= 8192+m.many {
		return false, api.ErrLpi
	}
	was := m.has(b, id)
	if m.on {
		m.waits[id-8192] = is
	} else {
		setBit(b, 8*m.pend+id-8192, is)
	}
	return was, api.OK
}

func (m *model) enable(b []byte) {
	if m.on {
		return
	}
	for k := range m.many {
		m.waits[k] = bit(b, 8*m.pend+k)
	}
	for k := range m.many {
		setBit(b, 8*m.pend+k, false)
	}
	m.on = true
	copy(m.known, b[m.prop:])
}

func (m *model) disable(b []byte) {
	for k := range m.many {
		if m.on && m.waits[k] {
			setBit(b, 8*m.pend+k, true)
		}
	}
	m.on = false
}

func (m *model) inv(b []byte, id int) api.Errno {
	if id < 8192 || id >= 8192+m.many {
		return api.ErrLpi
	}
	m.known[id-8192] = b[m.prop+id-8192]
	return api.OK
}

func (m *model) setup(id int) (bool, int) {
	if id < 8192 || id >= 8192+m.many {
		return false, 0
	}
	c := int(m.known[id-8192])
	return c%2 == 1, c / 8 * 8
}

func (m *model) waiting(b []byte) []int {
	var ids []int
	for id := 8192; id < 8192+m.many; id++ {
		if m.has(b, id) {
			ids = append(ids, id)
		}
	}
	return ids
}

// best looks for the priorities from the highest one on.
func (m *model) best() api.Candidate {
	for p := 0; p <= 248 && m.on; p += 8 {
		for k := range m.many {
			if in, q := m.setup(8192 + k); in && q == p && m.waits[k] {
				return api.Candidate{ID: 8192 + k, Priority: p, Group: 1, Is: true}
			}
		}
	}
	return api.Candidate{}
}

func move(b []byte, id int, from, to *model) bool {
	if from == to || id < 8192 || id >= 8192+to.many || !from.has(b, id) {
		return false
	}
	to.set(b, id, true)
	from.set(b, id, false)
	return true
}

func moveAll(b []byte, from, to *model) int {
	n := 0
	for _, id := range from.waiting(b) {
		if move(b, id, from, to) {
			n++
		}
	}
	return n
}

// bit returns bit n of some bytes, of which those of the first byte come first.
func bit(b []byte, n int) bool { return b[n/8]>>(n%8)%2 == 1 }

func setBit(b []byte, n int, is bool) {
	if bit(b, n) != is {
		b[n/8] ^= 1 << (n % 8)
	}
}

// create returns a memory with these bytes.
func create(t *testing.T, b []byte) *mem.Mem {
	t.Helper()
	m, e := mem.New(len(b))
	if e != api.OK {
		t.Fatal(e)
	}
	m.Put(all(m), b...)
	return m
}

func all(m *mem.Mem) api.Window { return win(0, m.Size()) }

func win(at, size int) api.Window { return api.Window{At: at, Size: size} }

// build returns message interrupts whose tables begin at these addresses and are no greater than they must be.
func build(t *testing.T, m *mem.Mem, many, prop, pend int) *lpi.Lpis {
	t.Helper()
	l, e := lpi.New(m, many, win(prop, many), win(pend, (many+7)/8))
	if l == nil || e != api.OK {
		t.Fatalf("New(%d, %d, %d): %v, %d", many, prop, pend, l, e)
	}
	return l
}

// keeps reports where the memory differs from b.
func keeps(t *testing.T, m *mem.Mem, b []byte) {
	t.Helper()
	if got, _ := m.Bytes(all(m)); !bytes.Equal(got, b) {
		t.Fatalf("memory: %v, want %v", got, b)
	}
}

// holds reports where interrupts and their memory differ from what they should be.
func holds(t *testing.T, m *mem.Mem, l *lpi.Lpis, b []byte, want *model) {
	t.Helper()
	if l.On() != want.on || l.Many() != want.many {
		t.Fatalf("On %v, Many %d, want %v, %d", l.On(), l.Many(), want.on, want.many)
	}
	if got, ids := slices.Collect(l.Waiting(m)), want.waiting(b); !slices.Equal(got, ids) {
		t.Fatalf("Waiting: %v, want %v", got, ids)
	}
	if got, c := l.Best(), want.best(); got != c {
		t.Fatalf("Best: %v, want %v", got, c)
	}
	for id := 8192 - 9; id < 8192+want.many+9; id++ {
		asked(t, m, l, b, want, id)
	}
	keeps(t, m, b)
}

func asked(t *testing.T, m *mem.Mem, l *lpi.Lpis, b []byte, want *model, id int) {
	t.Helper()
	if got := l.Has(m, id); got != want.has(b, id) {
		t.Fatalf("Has(%d): %v", id, got)
	}
	in, p := l.Setup(id)
	if wantIn, q := want.setup(id); in != wantIn || p != q {
		t.Fatalf("Setup(%d): %v, %d, want %v, %d", id, in, p, wantIn, q)
	}
}

// strangers lists numbers that are none of so many interrupts.
func strangers(many int) []int {
	return []int{
		-1, 0, 1, many, 8, 16, 32, 1023, 4096, 8190, 8191, 8192 + many, 8193 + many, 8192 + many + 7, 8192 + 512, 8192 * 2, 8192*2 + 1,
		-8192, -8191, -8193, 1<<32 + 8192, 1<<40 + 8192, 1<<62 + 8192, -1<<62 + 8192, math.MaxInt, math.MaxInt - 1, math.MaxInt - 8191,
		math.MaxInt - 8192, math.MinInt, math.MinInt + 1, math.MinInt + 8191, math.MinInt + 8192, math.MinInt + 8193,
	}
}

// roll returns a source of numbers below a given one, which depend on seed alone.
func roll(seed int) func(n int) int {
	x := uint64(seed)*2 + 1
	return func(n int) int {
		x = x*6364136223846793005 + 1442695040888963407
		return int(x >> 33 % uint64(n))
	}
}

// mixed returns so many bytes, all of which seed alone decides.
func mixed(size, seed int) []byte {
	b, next := make([]byte, size), roll(seed)
	for i := range b {
		b[i] = byte(next(256))
	}
	return b
}
