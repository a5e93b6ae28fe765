package cmd_test

import (
	"math"
	"math/big"
	"reflect"
	"regexp"
	"slices"
	"strings"
	"testing"

	"crier/api"
	"crier/cmd"
)

// part is a field of one command: its bits in the words, and the number that its lowest bit stands for.
type part struct {
	field             string
	word, first, bits int
	unit              int
}

// shape is what one command should look like.
type shape struct {
	op    api.Op
	name  string
	parts []part
}

// shapes lists the commands, each with all of its fields, in order.
func shapes() []shape {
	device, event := part{"Device", 0, 32, 32, 1}, part{"Event", 1, 0, 32, 1}
	coll, target := part{"Coll", 2, 0, 16, 1}, part{"Target", 2, 16, 16, 1}
	valid := part{"Valid", 2, 63, 1, 1}
	return []shape{
		{0x01, "movi", []part{device, event, coll}},
		{0x03, "int", []part{device, event}},
		{0x04, "clear", []part{device, event}},
		{0x05, "sync", []part{target}},
		{0x08, "mapd", []part{device, {"Bits", 1, 0, 5, 1}, {"Addr", 2, 8, 40, 256}, valid}},
		{0x09, "mapc", []part{coll, target, valid}},
		{0x0a, "mapti", []part{device, event, {"Number", 1, 32, 32, 1}, coll}},
		{0x0b, "mapi", []part{device, event, coll}},
		{0x0c, "inv", []part{device, event}},
		{0x0d, "invall", []part{coll}},
		{0x0e, "movall", []part{{"Number", 3, 16, 16, 1}, target}},
		{0x0f, "discard", []part{device, event}},
	}
}

func fieldNames() []string {
	return []string{"Device", "Event", "Number", "Coll", "Target", "Bits", "Addr", "Valid"}
}

// get returns a field of a command; Valid is 1 or 0.
func get(c api.Command, field string) int {
	if field == "Valid" {
		if c.Valid {
			return 1
		}
		return 0
	}
	return int(reflect.ValueOf(c).FieldByName(field).Int())
}

// with returns a command with another number in a field; 0 for Valid is false, any other number is true.
func with(c api.Command, field string, n int) api.Command {
	f := reflect.ValueOf(&c).Elem().FieldByName(field)
	if field == "Valid" {
		f.SetBool(n != 0)
	} else {
		f.SetInt(int64(n))
	}
	return c
}

// shapeOf returns the shape of the commands with an Op.
func shapeOf(op api.Op) (shape, bool) {
	for _, s := range shapes() {
		if s.op == op {
			return s, true
		}
	}
	return shape{}, false
}

func (s shape) part(field string) (part, bool) {
	for _, p := range s.parts {
		if p.field == field {
			return p, true
		}
	}
	return part{}, false
}

// most returns the greatest number that a field may have.
func (p part) most() int { return (1<<p.bits - 1) * p.unit }

// right reports whether a command is valid, and returns its shape.
func right(c api.Command) (shape, bool) {
	s, is := shapeOf(c.Op)
	for _, field := range fieldNames() {
		n := get(c, field)
		p, has := s.part(field)
		switch {
		case !has:
			is = is && n == 0
		default:
			is = is && 0 <= n && n <= p.most() && n%p.unit == 0
		}
	}
	return s, is
}

// encoded returns what Encode should return: bit by bit.
func encoded(c api.Command) ([4]uint64, api.Errno) {
	var w [4]uint64
	s, is := right(c)
	if !is {
		return w, api.ErrCommand
	}
	w[0] = uint64(s.op)
	for _, p := range s.parts {
		n := get(c, p.field) / p.unit
		for k := range p.bits {
			if n>>k%2 == 1 {
				w[p.word] += 1 << (p.first + k)
			}
		}
	}
	return w, api.OK
}

// decoded returns what Decode should return: each bit has its place in a field, or must be 0.
func decoded(w [4]uint64) (api.Command, api.Errno) {
	c := api.Command{Op: api.Op(w[0] % 256)}
	s, is := shapeOf(c.Op)
	if !is {
		return api.Command{}, api.ErrCommand
	}
	for word := range 4 {
		for bit := range 64 {
			if w[word]>>bit%2 == 0 || word == 0 && bit < 8 {
				continue
			}
			p, is := s.partAt(word, bit)
			if !is {
				return api.Command{}, api.ErrCommand
			}
			c = with(c, p.field, get(c, p.field)+p.unit<<(bit-p.first))
		}
	}
	return c, api.OK
}

// partAt returns the field in which a bit is.
func (s shape) partAt(word, bit int) (part, bool) {
	for _, p := range s.parts {
		if p.word == word && p.first <= bit && bit < p.first+p.bits {
			return p, true
		}
	}
	return part{}, false
}

// printed returns what Print should return.
func printed(c api.Command) (string, api.Errno) {
	s, is := right(c)
	if !is {
		return "", api.ErrCommand
	}
	text := s.name
	for _, p := range s.parts {
		text += " " + big.NewInt(int64(get(c, p.field)/p.unit)).String()
	}
	return text, api.OK
}

// form is what every text looks like: a name, and numbers without leading zeros.
var form = regexp.MustCompile(`\A([a-z]+)((?: (?:0|[1-9][0-9]*))*)\z`)

// parsed returns what Parse should return.
func parsed(text string) (api.Command, api.Errno) {
	found := form.FindStringSubmatch(text)
	if found == nil {
		return api.Command{}, api.ErrCommand
	}
	numbers := strings.Fields(found[2])
	i := slices.IndexFunc(shapes(), func(s shape) bool { return s.name == found[1] && len(s.parts) == len(numbers) })
	if i < 0 {
		return api.Command{}, api.ErrCommand
	}
	s := shapes()[i]
	c := api.Command{Op: s.op}
	for i, p := range s.parts {
		n, _ := new(big.Int).SetString(numbers[i], 10)
		if n.BitLen() > p.bits {
			return api.Command{}, api.ErrCommand
		}
		c = with(c, p.field, int(n.Int64())*p.unit)
	}
	return c, api.OK
}

// ends lists numbers on both sides of those that the chapter names, and at both ends of int.
func ends() []int {
	l := []int{0, 100, 128, 257, 384, 511, 513, 768, 2047, 2048, 2049, math.MaxInt - 255, -100, -384, math.MinInt + 256}
	for k := range 63 {
		l = append(l, 1<<k-1, 1<<k, 1<<k+1, -1<<k, -1<<k-1, -1<<k+1)
	}
	// A multiple of 256 that is too great by 1 bit, by all bits, and by those alone that are lost when it is moved up.
	l = append(l, 1<<48-256, 1<<48, 1<<48+256, 1<<48+2048, 1<<56+2048, 1<<62+256, -256, -1<<48)
	return append(l, math.MaxInt, math.MaxInt-1, math.MinInt, math.MinInt+1)
}

// kinds lists numbers that may or may not be an Op.
func kinds() []api.Op {
	var l []api.Op
	for op := -300; op < 600; op++ {
		l = append(l, api.Op(op))
	}
	for _, n := range ends() {
		for _, s := range shapes() {
			l = append(l, api.Op(n), api.Op(n)+s.op, api.Op(n)|s.op)
		}
	}
	return l
}

// samples lists valid commands of a shape: with nothing, with as much as fits, with both in turns, and with a few bits.
func samples(s shape) []api.Command {
	none := api.Command{Op: s.op}
	full, odd, even := none, none, none
	for i, p := range s.parts {
		full = with(full, p.field, p.most())
		if i%2 == 1 {
			odd = with(odd, p.field, p.most())
		} else {
			even = with(even, p.field, p.most())
		}
	}
	l := []api.Command{none, full, odd, even}
	next := roll(int(s.op))
	for range 20 {
		l = append(l, some(s, next))
	}
	return l
}

// some returns a valid command of a shape.
func some(s shape, next func(n int) int) api.Command {
	c := api.Command{Op: s.op}
	for _, p := range s.parts {
		c = with(c, p.field, (next(1<<31)<<10|next(1<<10))>>next(41)&(1<<p.bits-1)*p.unit)
	}
	return c
}

// roll returns a source of numbers below a given one, which depend on seed alone.
func roll(seed int) func(n int) int {
	x := uint64(seed)*2 + 1
	return func(n int) int {
		x = x*6364136223846793005 + 1442695040888963407
		return int(x >> 33 % uint64(n))
	}
}

// writes reports where a command's words and its text, and the ways back, differ from what they should be.
func writes(t *testing.T, c api.Command) {
	t.Helper()
	w, e := cmd.Encode(c)
	if want, f := encoded(c); w != want || e != f {
		t.Fatalf("Encode(%v): %#x, %d, want %#x, %d", c, w, e, want, f)
	}
	text, e := cmd.Print(c)
	if want, f := printed(c); text != want || e != f {
		t.Fatalf("Print(%v): %q, %d, want %q, %d", c, text, e, want, f)
	}
	if e != api.OK {
		return
	}
	if d, f := cmd.Decode(w); d != c || f != api.OK {
		t.Fatalf("Decode(%#x): %v, %d, want %v", w, d, f, c)
	}
	if d, f := cmd.Parse(text); d != c || f != api.OK {
		t.Fatalf("Parse(%q): %v, %d, want %v", text, d, f, c)
	}
}

// decodes reports where Decode differs from what it should return.
func decodes(t *testing.T, w [4]uint64) {
	t.Helper()
	c, e := cmd.Decode(w)
	if want, f := decoded(w); c != want || e != f {
		t.Fatalf("Decode(%#x): %v, %d, want %v, %d", w, c, e, want, f)
	}
}

// parses reports where Parse differs from what it should return.
func parses(t *testing.T, text string) {
	t.Helper()
	c, e := cmd.Parse(text)
	if want, f := parsed(text); c != want || e != f {
		t.Fatalf("Parse(%q): %v, %d, want %v, %d", text, c, e, want, f)
	}
}
