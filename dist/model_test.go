package dist_test

import (
	"iter"
	"slices"
	"testing"

	"crier/api"
	"crier/bank"
	"crier/dist"
	"crier/frame"
	"crier/irq"
	"crier/regs"
	"crier/sgi"
)

// item is an interrupt, as a loop yields it.
type item struct {
	id int
	l  api.Line
}

// model is what a distributor should be: all of it lies open, and routes are the values of their registers.
type model struct {
	on     []int // the groups that are enabled
	sleep  []bool
	own    [][]api.Line
	shared []api.Line
	routes []uint64
}

func newModel(cores, spis int) *model {
	m := &model{sleep: make([]bool, cores), shared: make([]api.Line, spis), routes: make([]uint64, spis)}
	for range cores {
		row := make([]api.Line, 32)
		for id := 0; id <= 15; id++ {
			row[id].Edge = true
		}
		m.own = append(m.own, row)
	}
	return m
}

func (m *model) clone() *model {
	c := &model{slices.Clone(m.on), slices.Clone(m.sleep), nil, slices.Clone(m.shared), slices.Clone(m.routes)}
	for _, row := range m.own {
		c.own = append(c.own, slices.Clone(row))
	}
	return c
}

func (m *model) is(k int) bool { return k >= 0 && k < len(m.sleep) }

// line returns an interrupt, to be read or changed, or an error.
func (m *model) line(k, id int) (*api.Line, api.Errno) {
	switch {
	case !m.is(k):
		return nil, api.ErrCore
	case id >= 0 && id < 32:
		return &m.own[k][id], api.OK
	case id >= 32 && id < 32+len(m.shared):
		return &m.shared[id-32], api.OK
	}
	return nil, api.ErrLine
}

// framed lets frame read a place from lines, or write it to them.
func framed(first int, row []api.Line, p api.Place, write bool, v uint64) uint64 {
	b, _ := bank.New(first, len(row), 0)
	for i, l := range row {
		b.Put(first+i, bank.Entry[int]{Line: l})
	}
	if !write {
		return frame.Read(b, p)
	}
	frame.Write(b, p, v)
	for id, e := range b.All() {
		row[id-first] = e.Line
	}
	return 0
}

func (m *model) read(off, width int) (uint64, api.Errno) {
	p, err := regs.Dist(off, width)
	switch {
	case err != api.OK:
		return 0, err
	case p.Reg == api.Ctlr:
		return 80 + uint64(count(m.on, 0)) + 2*uint64(count(m.on, 1)), api.OK
	case p.Reg == api.Typer:
		return uint64((len(m.shared)+31)/32 + 32*(len(m.sleep)-1) + 131072), api.OK
	case p.Reg == api.Irouter:
		if p.First-32 < len(m.routes) {
			return m.routes[p.First-32], api.OK
		}
		return 0, api.OK
	}
	return framed(32, m.shared, p, false, 0), api.OK
}

func (m *model) write(off, width int, v uint64) api.Errno {
	p, err := regs.Dist(off, width)
	switch {
	case err != api.OK:
		return err
	case p.Reg == api.Ctlr:
		m.on = nil
		if v%2 == 1 {
			m.on = append(m.on, 0)
		}
		if v/2%2 == 1 {
			m.on = append(m.on, 1)
		}
	case p.Reg == api.Irouter:
		if p.First-32 < len(m.routes) {
			m.routes[p.First-32] = v%256 + v>>31%2<<31
		}
	case p.Reg != api.Typer:
		framed(32, m.shared, p, true, v)
	}
	return api.OK
}

func (m *model) readOwn(k int, p api.Place) (uint64, api.Errno) {
	switch {
	case !m.is(k):
		return 0, api.ErrCore
	case p.Reg != api.Waker:
		return framed(0, m.own[k], p, false, 0), api.OK
	case m.sleep[k]:
		return 6, api.OK
	}
	return 0, api.OK
}

func (m *model) writeOwn(k int, p api.Place, v uint64) api.Errno {
	switch {
	case !m.is(k):
		return api.ErrCore
	case p.Reg == api.Waker:
		m.sleep[k] = v/2%2 == 1
	default:
		framed(0, m.own[k], p, true, v)
	}
	return api.OK
}

func (m *model) asleep(k int) bool { return !m.is(k) || m.sleep[k] }

func (m *model) do(k, id int, a api.Act) api.Errno {
	l, err := m.line(k, id)
	if err == api.OK {
		l.Irq = irq.Step(l.Irq, a)
	}
	return err
}

func (m *model) wire(k, id int, high bool) api.Errno {
	if id < 16 {
		return api.ErrLine
	}
	a := api.Fall
	if high {
		a = api.Rise
	}
	return m.do(k, id, a)
}

func (m *model) get(k, id int) (api.Line, api.Errno) {
	l, err := m.line(k, id)
	if err != api.OK {
		return api.Line{}, err
	}
	return *l, api.OK
}

func (m *model) put(k, id int, s api.Irq) api.Errno {
	l, err := m.line(k, id)
	if err == api.OK {
		l.Irq = s
	}
	return err
}

func (m *model) call(from, group int, v uint64) (int, api.Errno) {
	if !m.is(from) {
		return 0, api.ErrCore
	}
	n, c := 0, sgi.Decode(v)
	called := slices.Collect(sgi.To(c, from, len(m.sleep)))
	for k := range m.own {
		if l := &m.own[k][c.ID]; slices.Contains(called, k) && l.Group == group {
			l.Latch = true
			n++
		}
	}
	return n, api.OK
}

func (m *model) target(id int) int {
	if id < 32 || id >= 32+len(m.shared) {
		return -1
	}
	route := m.routes[id-32]
	if route>>31 == 1 {
		return slices.Index(m.sleep, false)
	}
	if k := int(route % 256); k < len(m.sleep) {
		return k
	}
	return -1
}

func (m *model) seen(k int) []item {
	var row []item
	if !m.is(k) {
		return row
	}
	for id := range 32 + len(m.shared) {
		if l, _ := m.line(k, id); id < 32 || m.target(id) == k {
			row = append(row, item{id, *l})
		}
	}
	return row
}

func (m *model) ready(k int) []item {
	if m.asleep(k) {
		return nil
	}
	return slices.DeleteFunc(m.seen(k), func(x item) bool {
		pending := x.l.Latch || x.l.Line && !x.l.Edge
		return !x.l.Enabled || !pending || x.l.Active || !slices.Contains(m.on, x.l.Group)
	})
}

func (m *model) best(k int) api.Candidate {
	row := m.ready(k)
	if len(row) == 0 {
		return api.Candidate{}
	}
	first := row[0]
	for _, x := range row {
		if x.l.Priority*1000+x.id < first.l.Priority*1000+first.id {
			first = x
		}
	}
	return api.Candidate{ID: first.id, Priority: first.l.Priority, Group: first.l.Group, Is: true}
}

// count returns how often a number is in a list.
func count(l []int, n int) int {
	c := 0
	for _, x := range l {
		if x == n {
			c++
		}
	}
	return c
}

func collect(seq iter.Seq2[int, api.Line]) []item {
	var row []item
	for id, l := range seq {
		row = append(row, item{id, l})
	}
	return row
}

// same holds all that can be asked of a distributor against a model.
func same(t *testing.T, when string, d *dist.Dist, m *model) {
	t.Helper()
	if d.Cores() != len(m.sleep) {
		t.Fatalf("%s: Cores: %d", when, d.Cores())
	}
	for _, off := range []int{0, 4} {
		v, err := d.Read(off, 4)
		if want, _ := m.read(off, 4); v != want || err != api.OK {
			t.Fatalf("%s: Read(%d, 4): %d, %v, not %d", when, off, v, err, want)
		}
	}
	for id := 31; id <= 97; id++ {
		if k := d.Target(id); k != m.target(id) {
			t.Fatalf("%s: Target(%d): %d, not %d", when, id, k, m.target(id))
		}
		if id > 31 {
			v, err := d.Read(0x6000+8*id, 8)
			if want, _ := m.read(0x6000+8*id, 8); v != want || err != api.OK {
				t.Fatalf("%s: the route of %d: %d, %v, not %d", when, id, v, err, want)
			}
		}
	}
	for k := -1; k <= len(m.sleep); k++ {
		sameCore(t, when, k, d, m)
	}
}

// sameCore holds all that can be asked of a processor against a model.
func sameCore(t *testing.T, when string, k int, d *dist.Dist, m *model) {
	t.Helper()
	waker, err := d.ReadOwn(k, api.Place{Reg: api.Waker})
	if want, e := m.readOwn(k, api.Place{Reg: api.Waker}); waker != want || err != e || d.Asleep(k) != m.asleep(k) {
		t.Fatalf("%s: processor %d: Waker %d, %v, asleep %v", when, k, waker, err, d.Asleep(k))
	}
	for id := -1; id <= 32+len(m.shared); id++ {
		l, err := d.Get(k, id)
		if want, e := m.get(k, id); l != want || err != e {
			t.Fatalf("%s: Get(%d, %d): %v, %v, not %v, %v", when, k, id, l, err, want, e)
		}
	}
	if row := collect(d.Seen(k)); !slices.Equal(row, m.seen(k)) {
		t.Fatalf("%s: Seen(%d): %v, not %v", when, k, row, m.seen(k))
	}
	if row := collect(d.Ready(k)); !slices.Equal(row, m.ready(k)) {
		t.Fatalf("%s: Ready(%d): %v, not %v", when, k, row, m.ready(k))
	}
	if c := d.Best(k); c != m.best(k) {
		t.Fatalf("%s: Best(%d): %v, not %v", when, k, c, m.best(k))
	}
}
