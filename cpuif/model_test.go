package cpuif_test

import (
	"math"
	"testing"

	"crier/api"
	"crier/cpuif"
	"crier/ladder"
)

// pair is a priority that is running, and its group.
type pair struct{ p, group int }

// model is what an interface should be: all of it lies open, and what is running is in order.
type model struct {
	mask  int
	point [2]int
	on    [2]bool
	split bool
	runs  []pair
}

// modelOf returns the model of an interface, by its fields.
func modelOf(f cpuif.If) *model {
	m := &model{mask: f.Mask, point: f.Point, on: f.On, split: f.Split}
	for k := range 32 {
		for group := range 2 {
			if f.Runs.Bits[group]>>k%2 == 1 {
				m.runs = append(m.runs, pair{8 * k, group})
			}
		}
	}
	return m
}

// face returns the interface that is as the model.
func (m *model) face() cpuif.If {
	f := cpuif.If{Mask: m.mask, Point: m.point, On: m.on, Split: m.split}
	for _, x := range m.runs {
		f.Runs.Bits[x.group] |= 1 << (x.p / 8)
	}
	return f
}

// odd returns bit 0 of a number.
func odd(n int) int { return int(uint64(n) % 2) }

// running returns what Running does.
func (m *model) running() (int, int) {
	if len(m.runs) == 0 {
		return 255, 0
	}
	return m.runs[0].p, m.runs[0].group
}

// level returns the level of a priority in a group, bit by bit.
func (m *model) level(p, group int) int {
	g := odd(group)
	lowest := []([]int){{1, 2, 3, 4, 5, 6, 7, 8}, {1, 1, 2, 3, 4, 5, 6, 7}}[g][uint64(m.point[g])%8]
	n := 0
	for k := lowest; k <= 7; k++ {
		n += int(uint64(p)>>k%2) << k
	}
	return n
}

func (m *model) may(c api.Candidate) bool {
	if !c.Is {
		return false
	}
	if !m.on[odd(c.Group)] {
		return false
	}
	p, _ := m.running()
	return c.Priority < m.mask && m.level(c.Priority, c.Group) < p
}

func (m *model) through(cs []api.Candidate) (api.Candidate, bool) {
	best := -1
	for i, c := range cs {
		switch {
		case !m.may(c):
		case best < 0, c.Priority < cs[best].Priority:
			best = i
		case c.Priority == cs[best].Priority && c.ID < cs[best].ID:
			best = i
		}
	}
	if best < 0 {
		return api.Candidate{}, false
	}
	return cs[best], true
}

func (m *model) shows(c api.Candidate, group int) int {
	if c.Is && c.Group == group && m.on[odd(group)] {
		return c.ID
	}
	return 1023
}

// take notes where the level that runs then belongs, rather than a bit.
func (m *model) take(c api.Candidate, group int) (int, bool) {
	if c.Group != group || !m.may(c) {
		return 1023, false
	}
	x, at := pair{m.level(c.Priority, group) / 8 * 8, odd(group)}, 0
	for at < len(m.runs) && (m.runs[at].p < x.p || m.runs[at].p == x.p && m.runs[at].group < x.group) {
		at++
	}
	if at == len(m.runs) || m.runs[at] != x {
		rest := append([]pair{x}, m.runs[at:]...)
		m.runs = append(m.runs[:at:at], rest...)
	}
	return c.ID, true
}

func (m *model) drop(group int) bool {
	if len(m.runs) == 0 || m.runs[0].group != group {
		return false
	}
	m.runs = m.runs[1:]
	return true
}

func (m *model) read(r api.CpuReg) (uint64, bool) {
	one := func(is bool, n uint64) (uint64, bool) {
		if !is {
			n = 0
		}
		return n, true
	}
	p, _ := m.running()
	switch r {
	case api.Pmr:
		return uint64(m.mask), true
	case api.Bpr0:
		return uint64(m.point[0]), true
	case api.Bpr1:
		if m.point[1] < 1 {
			return 1, true
		}
		return uint64(m.point[1]), true
	case api.CtlrEl1:
		return one(m.split, 2)
	case api.Igrpen0:
		return one(m.on[0], 1)
	case api.Igrpen1:
		return one(m.on[1], 1)
	case api.Rpr:
		return uint64(p), true
	}
	return 0, false
}

func (m *model) write(r api.CpuReg, v uint64) bool {
	switch r {
	case api.Pmr:
		m.mask = int(v % 256 / 8 * 8)
	case api.Bpr0:
		m.point[0] = int(v % 8)
	case api.Bpr1:
		m.point[1] = int(v % 8)
		if m.point[1] == 0 {
			m.point[1] = 1
		}
	case api.CtlrEl1:
		m.split = v/2%2 == 1
	case api.Igrpen0:
		m.on[0] = v%2 == 1
	case api.Igrpen1:
		m.on[1] = v%2 == 1
	default:
		return false
	}
	return true
}

// holds reports each query of an interface that is at variance with the model.
func holds(t *testing.T, f cpuif.If, m *model) {
	t.Helper()
	if want := m.face(); f != want {
		t.Fatalf("%v, want %v", f, want)
	}
	p, group := f.Running()
	if q, of := m.running(); p != q || group != of {
		t.Errorf("%v: Running: %d, %d, want %d, %d", f, p, group, q, of)
	}
	if n := f.Depth(); n != len(m.runs) {
		t.Errorf("%v: Depth: %d, want %d", f, n, len(m.runs))
	}
	for _, r := range registers() {
		n, is := f.Read(r)
		if want, known := m.read(r); n != want || is != known {
			t.Errorf("%v: Read(%d): %d, %v, want %d, %v", f, r, n, is, want, known)
		}
	}
}

// registers lists all registers of an interface, and numbers that are none.
func registers() []api.CpuReg {
	rs := []api.CpuReg{math.MinInt, math.MinInt + 1, -256, -7, -6, -1, 0, 17, 18, 255, 262, 1 << 32, 1<<32 + 6, math.MaxInt - 1, math.MaxInt}
	for r := api.Iar0; r <= api.Sgi1r; r++ {
		rs = append(rs, r)
	}
	return rs
}

// ends lists numbers on both sides of those that the chapter names, and at both ends of int.
func ends() []int {
	return []int{
		math.MinInt, math.MinInt + 1, math.MinInt + 7, math.MinInt + 8, math.MinInt + 255, math.MinInt + 256, -1 << 32, -257, -256, -255, -249,
		-248, -9, -8, -7, -3, -2, -1, 0, 1, 2, 3, 6, 7, 8, 9, 15, 16, 127, 128, 159, 160, 161, 167, 168, 240, 247, 248, 249, 254, 255, 256, 257,
		264, 504, 511, 512, 1 << 32, 1<<32 + 1, 1 << 62, math.MaxInt - 256, math.MaxInt - 255, math.MaxInt - 8, math.MaxInt - 7,
		math.MaxInt - 1, math.MaxInt,
	}
}

// words lists values of registers: each bit alone, those below it, and the numbers of ends.
func words() []uint64 {
	vs := []uint64{0, math.MaxUint64}
	for k := range 64 {
		vs = append(vs, 1<<k, 1<<k-1, ^uint64(1<<k))
	}
	for _, n := range ends() {
		vs = append(vs, uint64(n))
	}
	return vs
}

// open returns an interface that lets everything through but the lowest priority, with certain priorities running.
func open(runs ladder.Ladder) cpuif.If {
	return cpuif.If{Mask: 248, On: [2]bool{true, true}, Runs: runs}
}

// some lists interfaces of all kinds, with numbers that no write stores, too.
func some() []cpuif.If {
	both := [2]bool{true, true}
	all := uint32(math.MaxUint32)
	return []cpuif.If{
		{}, open(ladder.Of()), open(ladder.Of(0, 1<<20)), open(ladder.Of(1<<20, 0)), open(ladder.Of(1<<20, 1<<20)), open(ladder.Of(1, 0)),
		open(ladder.Of(0, 1)), open(ladder.Of(1, 1)), open(ladder.Of(1<<31, 1<<31)), open(ladder.Of(2, 3)), open(ladder.Of(all, all)),
		{Mask: 248, On: [2]bool{true, false}}, {Mask: 248, On: [2]bool{false, true}}, {Mask: 248}, {On: both}, {Mask: 8, On: both},
		{Mask: 160, On: both, Split: true}, {Mask: 161, On: both, Point: [2]int{3, 4}}, {Mask: 255, On: both, Point: [2]int{4, 3}},
		{Mask: 256, On: both, Point: [2]int{7, 1}, Runs: ladder.Of(0, 1<<20)}, {Mask: 248, On: both, Point: [2]int{1, 7}, Runs: ladder.Of(0, 1<<20)},
		{Mask: 248, On: both, Point: [2]int{5, 5}, Runs: ladder.Of(1<<21, 1<<22)}, {Mask: math.MaxInt, On: both, Point: [2]int{-1, -8}},
		{Mask: math.MaxInt, On: both, Point: [2]int{8, 15}, Runs: ladder.Of(1<<10, 1<<9)}, {Mask: math.MinInt, On: both},
		{Mask: math.MinInt + 256, On: both, Point: [2]int{math.MinInt, math.MaxInt}}, {Mask: -1, On: both, Point: [2]int{math.MaxInt, math.MinInt}},
		{Mask: math.MaxInt, On: both, Point: [2]int{6, 0}, Split: true, Runs: ladder.Of(0x80000000, 0x00018000)},
	}
}

// at returns a candidate that is.
func at(id, p, group int) api.Candidate {
	return api.Candidate{ID: id, Priority: p, Group: group, Is: true}
}

// many lists candidates with each number of ends as a priority, and each one as a group.
func many() []api.Candidate {
	var cs []api.Candidate
	for _, n := range ends() {
		for group := -1; group <= 2; group++ {
			cs = append(cs, api.Candidate{ID: 40, Priority: n, Group: group, Is: true}, api.Candidate{ID: 40, Priority: n, Group: group})
		}
		for _, p := range []int{0, 152, 168} {
			cs = append(cs, api.Candidate{ID: n, Priority: p, Group: n, Is: true})
		}
	}
	return cs
}

// roll returns a source of numbers below a given one, which depend on seed alone.
func roll(seed int) func(n int) int {
	x := uint64(seed)*2 + 1
	return func(n int) int {
		x = x*6364136223846793005 + 1442695040888963407
		return int(x >> 33 % uint64(n))
	}
}
