package queue_test

import (
	"bytes"
	"encoding/binary"
	"math"
	"slices"
	"testing"

	"crier/api"
	"crier/cmd"
	"crier/mem"
	"crier/queue"
)

// model is what a queue should be, with a memory of its own.
type model struct {
	queue.Queue
	bytes []byte
}

// load is what a traversal yields for an entry.
type load struct {
	c api.Command
	e api.Errno
}

// places lists where entries begin, one by one, or nothing if there are none or too many.
func (o *model) places() []int {
	var l []int
	for at := 0; at < o.Window.Size && len(l) <= 1024; at += 32 {
		l = append(l, at)
	}
	if len(l) > 1024 || 32*len(l) != o.Window.Size {
		return nil
	}
	return l
}

// waiting lists where the entries that wait begin, and tells whether Read and Write are right.
func (o *model) waiting() ([]int, bool) {
	l := o.places()
	first, end := slices.Index(l, o.Read), slices.Index(l, o.Write)
	if first < 0 || end < 0 {
		return nil, false
	}
	if first > end {
		return slices.Concat(l[first:], l[:end]), true
	}
	return l[first:end], true
}

func (o *model) left() int {
	l, _ := o.waiting()
	return len(l)
}

func (o *model) room() int {
	l, is := o.waiting()
	if !is {
		return 0
	}
	return len(o.places()) - 1 - len(l)
}

// next returns where the entry after one begins.
func (o *model) next(at int) int {
	l := o.places()
	return l[(slices.Index(l, at)+1)%len(l)]
}

// entry returns the bytes of an entry, or nothing if the memory does not hold the window.
func (o *model) entry(at int) []byte {
	w := o.Window
	if w.At < 0 || w.At > len(o.bytes) || w.Size > len(o.bytes)-w.At {
		return nil
	}
	return o.bytes[w.At+at:][:32]
}

func (o *model) load(at int) load {
	b := o.entry(at)
	if b == nil {
		return load{e: api.ErrUnmapped}
	}
	var w [4]uint64
	for i := range w {
		w[i] = binary.LittleEndian.Uint64(b[8*i:])
	}
	c, e := cmd.Decode(w)
	return load{c, e}
}

func (o *model) loads() []load {
	var all []load
	l, _ := o.waiting()
	for _, at := range l {
		all = append(all, o.load(at))
	}
	return all
}

func (o *model) head() load {
	if o.left() == 0 {
		return load{e: api.ErrEmpty}
	}
	return o.loads()[0]
}

func (o *model) wrong() int {
	n := 0
	for _, x := range o.loads() {
		if x.e != api.OK {
			n++
		}
	}
	return n
}

func (o *model) put(c api.Command) api.Errno {
	if o.room() == 0 {
		return api.ErrFull
	}
	w, e := cmd.Encode(c)
	if e != api.OK {
		return e
	}
	b := o.entry(o.Write)
	if b == nil {
		return api.ErrUnmapped
	}
	copy(b, inBytes(w))
	o.Write = o.next(o.Write)
	return api.OK
}

func (o *model) fill(cs []api.Command) (int, api.Errno) {
	n, e := 0, api.OK
	for n < len(cs) && e == api.OK {
		if e = o.put(cs[n]); e == api.OK {
			n++
		}
	}
	return n, e
}

func (o *model) pass() api.Errno {
	if o.left() == 0 {
		return api.ErrEmpty
	}
	o.Read = o.next(o.Read)
	return api.OK
}

func (o *model) setWrite(at int) api.Errno {
	if !slices.Contains(o.places(), at) {
		return api.ErrArg
	}
	o.Write = at
	return api.OK
}

// pair is a queue and its memory, and what they should be.
type pair struct {
	q    queue.Queue
	m    *mem.Mem
	want model
}

// start returns a queue with these fields in a memory with these bytes.
func start(t *testing.T, q queue.Queue, b []byte) *pair {
	t.Helper()
	return &pair{q, create(t, b), model{q, slices.Clone(b)}}
}

// agree reports where a queue, what it returns, or its memory differs from what it should be.
func (p *pair) agree(t *testing.T) {
	t.Helper()
	if p.q != p.want.Queue {
		t.Fatalf("queue: %v, want %v", p.q, p.want.Queue)
	}
	if n := p.q.Left(); n != p.want.left() {
		t.Fatalf("%v: Left: %d, want %d", p.q, n, p.want.left())
	}
	if n := p.q.Room(); n != p.want.room() {
		t.Fatalf("%v: Room: %d, want %d", p.q, n, p.want.room())
	}
	if c, e := p.q.Head(p.m); (load{c, e}) != p.want.head() {
		t.Fatalf("%v: Head: %v, %d, want %v", p.q, c, e, p.want.head())
	}
	if l := all(p.q, p.m); !slices.Equal(l, p.want.loads()) {
		t.Fatalf("%v: Each: %v, want %v", p.q, l, p.want.loads())
	}
	if n := p.q.Wrong(p.m); n != p.want.wrong() {
		t.Fatalf("%v: Wrong: %d, want %d", p.q, n, p.want.wrong())
	}
	if p.q != p.want.Queue {
		t.Fatalf("%v has changed by what was asked: %v", p.want.Queue, p.q)
	}
	keeps(t, p.m, p.want.bytes)
}

func (p *pair) put(t *testing.T, c api.Command) {
	t.Helper()
	before := p.q
	if e, want := p.q.Put(p.m, c), p.want.put(c); e != want {
		t.Fatalf("%v: Put(%v): %d, want %d", before, c, e, want)
	}
	p.agree(t)
}

func (p *pair) fill(t *testing.T, cs ...api.Command) {
	t.Helper()
	before, given := p.q, slices.Clone(cs)
	n, e := p.q.Fill(p.m, cs...)
	if want, f := p.want.fill(cs); n != want || e != f {
		t.Fatalf("%v: Fill(%v): %d, %d, want %d, %d", before, cs, n, e, want, f)
	}
	if !slices.Equal(cs, given) {
		t.Fatalf("Fill has changed what it was given: %v, from %v", cs, given)
	}
	p.agree(t)
}

func (p *pair) pass(t *testing.T) {
	t.Helper()
	before := p.q
	if e, want := p.q.Pass(), p.want.pass(); e != want {
		t.Fatalf("%v: Pass: %d, want %d", before, e, want)
	}
	p.agree(t)
}

func (p *pair) setWrite(t *testing.T, at int) {
	t.Helper()
	before := p.q
	if e, want := p.q.SetWrite(at), p.want.setWrite(at); e != want {
		t.Fatalf("%v: SetWrite(%d): %d, want %d", before, at, e, want)
	}
	p.agree(t)
}

// set gives the queue other fields.
func (p *pair) set(q queue.Queue) { p.q, p.want.Queue = q, q }

// poke stores a byte in the memory, beside the queue.
func (p *pair) poke(at int, b byte) {
	p.m.Put(win(at, 1), b)
	p.want.bytes[at] = b
}

// all returns what Each yields.
func all(q queue.Queue, m *mem.Mem) []load {
	var l []load
	for c, e := range q.Each(m) {
		l = append(l, load{c, e})
	}
	return l
}

func win(at, size int) api.Window { return api.Window{At: at, Size: size} }

// on returns the queue with these fields.
func on(at, size, read, write int) queue.Queue {
	return queue.Queue{win(at, size), read, write}
}

// create returns a memory with these bytes.
func create(t *testing.T, b []byte) *mem.Mem {
	t.Helper()
	m, e := mem.New(len(b))
	if e != api.OK {
		t.Fatal(e)
	}
	m.Put(win(0, len(b)), b...)
	return m
}

// keeps reports where the memory differs from b.
func keeps(t *testing.T, m *mem.Mem, b []byte) {
	t.Helper()
	if got, _ := m.Bytes(win(0, m.Size())); !bytes.Equal(got, b) {
		t.Fatalf("memory: %v, want %v", got, b)
	}
}

// inBytes returns the words of a command as they are stored.
func inBytes(w [4]uint64) []byte {
	var b []byte
	for _, word := range w {
		b = binary.LittleEndian.AppendUint64(b, word)
	}
	return b
}

// full returns so many bytes, in which a different command begins at each multiple of 32 after at.
func full(at, size int) []byte {
	b := make([]byte, size)
	for k := 0; at+32*(k+1) <= size; k++ {
		w, _ := cmd.Encode(nth(k))
		copy(b[at+32*k:], inBytes(w))
	}
	return b
}

// nth returns a valid command, another one for each k.
func nth(k int) api.Command {
	switch k % 4 {
	case 0:
		return api.Command{Op: api.Sync, Target: k + 1}
	case 1:
		return api.Command{Op: api.Mapti, Device: k, Event: 2, Number: 8192 + k, Coll: 3}
	case 2:
		return api.Command{Op: api.Mapd, Device: k, Bits: 3, Addr: 256 * k, Valid: true}
	}
	return api.Command{Op: api.Movall, Number: k, Target: 5}
}

// bad lists commands that are not valid.
func bad() []api.Command {
	return []api.Command{
		{}, {Op: 2}, {Op: -1}, {Op: api.Sync, Bits: 1}, {Op: api.Sync, Target: -1}, {Op: api.Sync, Target: 1 << 16}, {Op: api.Int, Valid: true},
		{Op: api.Mapd, Addr: 255}, {Op: api.Mapd, Addr: math.MinInt}, {Op: api.Inv, Device: math.MaxInt}, {Op: math.MinInt}, {Op: math.MaxInt},
	}
}

// ends lists numbers of both signs, up to both ends of int.
func ends() []int {
	l := []int{math.MaxInt, math.MaxInt - 31, math.MinInt, math.MinInt + 1, math.MinInt + 32, 1<<15 - 32, 1<<15 + 32, 1<<17 - 32}
	for k := range 63 {
		l = append(l, 1<<k, -1<<k)
	}
	return l
}

// roll returns a source of numbers below a given one, which depend on seed alone.
func roll(seed int) func(n int) int {
	x := uint64(seed)*2 + 1
	return func(n int) int {
		x = x*6364136223846793005 + 1442695040888963407
		return int(x >> 33 % uint64(n))
	}
}
