package regs_test

import (
	"math"
	"slices"
	"testing"

	"crier/api"
	"crier/regs"
)

// kind is a line of the chapter's tables.
type kind struct {
	from, upTo, width int
	reg               api.Reg
	inEight           int // how many interrupts 8 bytes describe
	first             int
}

// frame is a kind of frame, and the function that decodes accesses to it.
type frame struct {
	name   string
	size   int
	kinds  []kind
	decode func(off, width int) (api.Place, api.Errno)
}

// cell is what the chapter tells of one byte of a frame.
type cell struct {
	reg   api.Reg
	width int
	ids   []int // the interrupts that the byte describes
}

// answer is what the decoding of an access returns.
type answer struct {
	p api.Place
	e api.Errno
}

// spot is what At returns.
type spot struct {
	off, width int
	is         bool
}

func frames() []frame {
	return []frame{
		{"Dist", 1 << 16, []kind{
			{0x0, 0x4, 4, api.Ctlr, 0, 0}, {0x4, 0x8, 4, api.Typer, 0, 0}, {0x80, 0x100, 4, api.Igroup, 64, 0},
			{0x100, 0x180, 4, api.Isenable, 64, 0}, {0x180, 0x200, 4, api.Icenable, 64, 0}, {0x200, 0x280, 4, api.Ispend, 64, 0},
			{0x280, 0x300, 4, api.Icpend, 64, 0}, {0x300, 0x380, 4, api.Isactive, 64, 0}, {0x380, 0x400, 4, api.Icactive, 64, 0},
			{0x400, 0x800, 4, api.Ipriority, 8, 0}, {0xc00, 0xd00, 4, api.Icfg, 32, 0}, {0x6100, 0x8000, 8, api.Irouter, 1, 32},
		}, regs.Dist},
		{"Redist", 1 << 17, []kind{
			{0x0, 0x4, 4, api.Ctlr, 0, 0}, {0x8, 0x10, 8, api.Typer, 0, 0}, {0x14, 0x18, 4, api.Waker, 0, 0}, {0x70, 0x78, 8, api.Propbase, 0, 0},
			{0x78, 0x80, 8, api.Pendbase, 0, 0}, {0xa0, 0xa8, 8, api.Invlpi, 0, 0}, {0xb0, 0xb8, 8, api.Invall, 0, 0},
			{0xc0, 0xc4, 4, api.Syncr, 0, 0}, {0x10080, 0x10084, 4, api.Igroup, 64, 0}, {0x10100, 0x10104, 4, api.Isenable, 64, 0},
			{0x10180, 0x10184, 4, api.Icenable, 64, 0}, {0x10200, 0x10204, 4, api.Ispend, 64, 0}, {0x10280, 0x10284, 4, api.Icpend, 64, 0},
			{0x10300, 0x10304, 4, api.Isactive, 64, 0}, {0x10380, 0x10384, 4, api.Icactive, 64, 0}, {0x10400, 0x10420, 4, api.Ipriority, 8, 0},
			{0x10c00, 0x10c08, 4, api.Icfg, 32, 0},
		}, regs.Redist},
		{"Its", 1 << 16, []kind{
			{0x0, 0x4, 4, api.Ctlr, 0, 0}, {0x8, 0x10, 8, api.Typer, 0, 0}, {0x80, 0x88, 8, api.Cbaser, 0, 0}, {0x88, 0x90, 8, api.Cwriter, 0, 0},
			{0x90, 0x98, 8, api.Creadr, 0, 0},
		}, regs.Its},
	}
}

// cells returns what there is at each byte of a frame; the zero cell is a byte of a reserved location.
func cells(f frame) []cell {
	all := make([]cell, f.size)
	for _, k := range f.kinds {
		for off := k.from; off < k.upTo; off++ {
			c := cell{reg: k.reg, width: k.width}
			// In eighths of an interrupt, as a byte may describe only a part of one.
			for id := k.inEight * (off - k.from) / 8; 8*id < k.inEight*(off-k.from+1); id++ {
				c.ids = append(c.ids, k.first+id)
			}
			all[off] = c
		}
	}
	return all
}

// decoded returns what the decoding of an access to a frame with certain cells returns.
func decoded(all []cell, off, width int) answer {
	if width != 4 && width != 8 {
		return answer{e: api.ErrWidth}
	}
	if uint64(off)%uint64(width) != 0 {
		return answer{e: api.ErrAlign}
	}
	if off < 0 || off >= len(all) {
		return answer{e: api.ErrUnmapped}
	}
	var ids []int
	var reg api.Reg
	for _, c := range all[off : off+width] {
		if reg == api.NoReg && c.reg != api.NoReg && c.width != width {
			return answer{e: api.ErrWidth}
		}
		reg = max(reg, c.reg)
		ids = append(ids, c.ids...)
	}
	p := api.Place{Reg: reg, Count: len(slices.Compact(ids))}
	if len(ids) > 0 {
		p.First = ids[0]
	}
	return answer{p: p}
}

// ends lists numbers on both sides of those that the chapter names, and at both ends of int.
func ends() []int {
	return []int{
		math.MinInt, math.MinInt + 1, math.MinInt + 4, math.MinInt + 7, math.MinInt + 8, -1 << 62, -1 << 61, -1 << 32, -1<<32 + 4, -1 << 17, -1 << 16,
		-32, -31, -9, -8, -7, -5, -4, -3, -2, -1, 0, 1, 2, 3, 4, 5, 6, 7, 8, 9, 12, 15, 16, 17, 31, 32, 33, 62, 63, 64, 65, 127, 128, 1019, 1020, 1023,
		1024, 1025, 8191, 8192, 16383, 16384, 16385, 1 << 16, 1<<16 + 4, 1 << 17, 1<<17 + 8, 1 << 32, 1<<32 + 4, 1 << 57, 1 << 58, 1 << 60, 1 << 61,
		1<<61 + 1, 1 << 62, 1<<62 + 8, math.MaxInt - 16384, math.MaxInt - 16383, math.MaxInt - 64, math.MaxInt - 8, math.MaxInt - 7, math.MaxInt - 4,
		math.MaxInt - 3, math.MaxInt - 1, math.MaxInt,
	}
}

// registers lists each register, and numbers that are none.
func registers() []api.Reg {
	some := []api.Reg{math.MinInt, -1 << 32, -1<<32 + api.Icfg, 1 << 32, 1<<32 + api.Ipriority, math.MaxInt}
	for reg := api.NoReg - 3; reg <= api.Creadr+3; reg++ {
		some = append(some, reg)
	}
	return some
}

// wide returns how many bits the field of an interrupt has.
func wide(reg api.Reg) int {
	return 1 + map[api.Reg]int{api.Ipriority: 7, api.Icfg: 1, api.Irouter: 62}[reg]
}

// field returns the field of the k-th interrupt of a place, bit by bit.
func field(v uint64, p api.Place, k int) uint64 {
	f := uint64(0)
	for bit := range 64 {
		// The bit belongs to the field of one interrupt alone, so that no product is needed.
		if bit/wide(p.Reg) == k && k < p.Count {
			f |= v >> bit & 1 << (bit % wide(p.Reg))
		}
	}
	return f
}

// with returns a value with another field, bit by bit.
func with(v uint64, p api.Place, k int, x uint64) uint64 {
	for bit := range 64 {
		if bit/wide(p.Reg) == k && k < p.Count {
			v = v&^(1<<bit) | x>>(bit%wide(p.Reg))&1<<bit
		}
	}
	return v
}

// values lists numbers of 64 bits.
func values() []uint64 {
	some := []uint64{0, 1, 2, 0xff, 0x0a000000, 0x0123456789abcdef, 0x5555555555555555, 0xaaaaaaaaaaaaaaaa, 1 << 62, 1 << 63, 1<<63 - 1, 1<<64 - 2, 1<<64 - 1}
	next := roll(11)
	for range 8 {
		some = append(some, uint64(next(1<<31))<<33|uint64(next(1<<31))<<2|uint64(next(4)))
	}
	return some
}

// roll returns a source of numbers below a given one, which depend on seed alone.
func roll(seed int) func(n int) int {
	x := uint64(seed)*2 + 1
	return func(n int) int {
		x = x*6364136223846793005 + 1442695040888963407
		return int(x >> 33 % uint64(n))
	}
}

// ids returns the first most interrupts that Ids yields.
func ids(p api.Place, most int) []int {
	var row []int
	for id := range regs.Ids(p) {
		if len(row) == most {
			break
		}
		row = append(row, id)
	}
	return row
}

func decodes(t *testing.T, f frame, off, width int, want answer) {
	t.Helper()
	if p, e := f.decode(off, width); (answer{p, e}) != want {
		t.Errorf("%s(%#x, %d): %v, %d, want %v, %d", f.name, off, width, p, int(e), want.p, int(want.e))
	}
}

func TestExamples(t *testing.T) { // P10.1 to P10.3
	for _, x := range []struct {
		off, width int
		want       answer
	}{
		{0x104, 4, answer{api.Place{Reg: api.Isenable, First: 32, Count: 32}, api.OK}}, {0x408, 8, answer{e: api.ErrWidth}},
		{0x6100, 8, answer{api.Place{Reg: api.Irouter, First: 32, Count: 1}, api.OK}}, {0x9000, 8, answer{}}, {0x2, 4, answer{e: api.ErrAlign}},
	} {
		decodes(t, frames()[0], x.off, x.width, x.want)
	}
	decodes(t, frames()[1], 0x10404, 4, answer{api.Place{Reg: api.Ipriority, First: 4, Count: 4}, api.OK})
	if off, width, is := regs.At(api.Ipriority, 37); (spot{off, width, is}) != (spot{0x424, 4, true}) {
		t.Errorf("At: %#x, %d, %v", off, width, is)
	}
	if got := regs.Field(0x0a000000, api.Place{Reg: api.Ipriority, First: 4, Count: 4}, 3); got != 10 {
		t.Errorf("Field: %d", got)
	}
}

func TestEachAccess(t *testing.T) { // P10.1
	for _, f := range frames() {
		all := cells(f)
		for off := -40; off <= f.size+40; off++ {
			for _, width := range []int{4, 8} {
				decodes(t, f, off, width, decoded(all, off, width))
			}
		}
		for off := -40; off <= f.size+40; off += 4 {
			for _, width := range []int{1, 2, 16} {
				decodes(t, f, off, width, answer{e: api.ErrWidth})
			}
		}
	}
}

func TestAccessesAtTheEndsOfInt(t *testing.T) { // P10.1
	for _, f := range frames() {
		all := cells(f)
		for _, off := range ends() {
			for _, width := range ends() {
				decodes(t, f, off, width, decoded(all, off, width))
			}
		}
	}
}

func TestWrittenOutPlacesOfDist(t *testing.T) { // P10.1
	for _, x := range []struct {
		off, width int
		p          api.Place
	}{
		{0, 4, api.Place{Reg: api.Ctlr}}, {4, 4, api.Place{Reg: api.Typer}}, {8, 4, api.Place{}}, {8, 8, api.Place{}}, {0x78, 8, api.Place{}},
		{0x7c, 4, api.Place{}}, {0x80, 4, api.Place{Reg: api.Igroup, First: 0, Count: 32}}, {0xfc, 4, api.Place{Reg: api.Igroup, First: 992, Count: 32}},
		{0x100, 4, api.Place{Reg: api.Isenable, First: 0, Count: 32}}, {0x17c, 4, api.Place{Reg: api.Isenable, First: 992, Count: 32}},
		{0x184, 4, api.Place{Reg: api.Icenable, First: 32, Count: 32}}, {0x1fc, 4, api.Place{Reg: api.Icenable, First: 992, Count: 32}},
		{0x208, 4, api.Place{Reg: api.Ispend, First: 64, Count: 32}}, {0x280, 4, api.Place{Reg: api.Icpend, First: 0, Count: 32}},
		{0x304, 4, api.Place{Reg: api.Isactive, First: 32, Count: 32}}, {0x384, 4, api.Place{Reg: api.Icactive, First: 32, Count: 32}},
		{0x3fc, 4, api.Place{Reg: api.Icactive, First: 992, Count: 32}}, {0x400, 4, api.Place{Reg: api.Ipriority, First: 0, Count: 4}},
		{0x420, 4, api.Place{Reg: api.Ipriority, First: 32, Count: 4}}, {0x7fc, 4, api.Place{Reg: api.Ipriority, First: 1020, Count: 4}},
		{0x800, 4, api.Place{}}, {0x800, 8, api.Place{}}, {0xbfc, 4, api.Place{}}, {0xc00, 4, api.Place{Reg: api.Icfg, First: 0, Count: 16}},
		{0xc04, 4, api.Place{Reg: api.Icfg, First: 16, Count: 16}}, {0xcfc, 4, api.Place{Reg: api.Icfg, First: 1008, Count: 16}}, {0xd00, 4, api.Place{}},
		{0x60f8, 8, api.Place{}}, {0x60fc, 4, api.Place{}}, {0x6108, 8, api.Place{Reg: api.Irouter, First: 33, Count: 1}},
		{0x7ff8, 8, api.Place{Reg: api.Irouter, First: 1023, Count: 1}}, {0x8000, 8, api.Place{}}, {0x8000, 4, api.Place{}}, {0xfff8, 8, api.Place{}},
		{0xfffc, 4, api.Place{}},
	} {
		decodes(t, frames()[0], x.off, x.width, answer{p: x.p})
	}
}

func TestWrittenOutPlacesOfTheOthers(t *testing.T) { // P10.1
	for _, x := range []struct {
		off, width int
		p          api.Place
	}{
		{0, 4, api.Place{Reg: api.Ctlr}}, {4, 4, api.Place{}}, {8, 8, api.Place{Reg: api.Typer}}, {0x10, 4, api.Place{}}, {0x14, 4, api.Place{Reg: api.Waker}},
		{0x18, 8, api.Place{}}, {0x68, 8, api.Place{}}, {0x70, 8, api.Place{Reg: api.Propbase}}, {0x78, 8, api.Place{Reg: api.Pendbase}}, {0x80, 8, api.Place{}},
		{0x80, 4, api.Place{}}, {0xa0, 8, api.Place{Reg: api.Invlpi}}, {0xa8, 8, api.Place{}}, {0xb0, 8, api.Place{Reg: api.Invall}}, {0xb8, 8, api.Place{}},
		{0xc0, 4, api.Place{Reg: api.Syncr}}, {0xc4, 4, api.Place{}}, {0x100, 4, api.Place{}}, {0x400, 4, api.Place{}}, {0x10000, 4, api.Place{}},
		{0x10080, 4, api.Place{Reg: api.Igroup, Count: 32}}, {0x10084, 4, api.Place{}}, {0x10100, 4, api.Place{Reg: api.Isenable, Count: 32}},
		{0x10180, 4, api.Place{Reg: api.Icenable, Count: 32}}, {0x10200, 4, api.Place{Reg: api.Ispend, Count: 32}},
		{0x10280, 4, api.Place{Reg: api.Icpend, Count: 32}}, {0x10300, 4, api.Place{Reg: api.Isactive, Count: 32}},
		{0x10380, 4, api.Place{Reg: api.Icactive, Count: 32}}, {0x10384, 4, api.Place{}}, {0x10400, 4, api.Place{Reg: api.Ipriority, Count: 4}},
		{0x1041c, 4, api.Place{Reg: api.Ipriority, First: 28, Count: 4}}, {0x10420, 4, api.Place{}}, {0x10c00, 4, api.Place{Reg: api.Icfg, Count: 16}},
		{0x10c04, 4, api.Place{Reg: api.Icfg, First: 16, Count: 16}}, {0x10c08, 8, api.Place{}}, {0x16100, 8, api.Place{}}, {0x1fff8, 8, api.Place{}},
		{0x1fffc, 4, api.Place{}},
	} {
		decodes(t, frames()[1], x.off, x.width, answer{p: x.p})
	}
	for _, x := range []struct {
		off, width int
		p          api.Place
	}{
		{0, 4, api.Place{Reg: api.Ctlr}}, {4, 4, api.Place{}}, {8, 8, api.Place{Reg: api.Typer}}, {0x10, 8, api.Place{}}, {0x78, 8, api.Place{}},
		{0x80, 8, api.Place{Reg: api.Cbaser}}, {0x88, 8, api.Place{Reg: api.Cwriter}}, {0x90, 8, api.Place{Reg: api.Creadr}}, {0x98, 8, api.Place{}},
		{0x98, 4, api.Place{}}, {0x100, 4, api.Place{}}, {0xfff8, 8, api.Place{}}, {0xfffc, 4, api.Place{}},
	} {
		decodes(t, frames()[2], x.off, x.width, answer{p: x.p})
	}
}

func TestTheFirstErrorThatApplies(t *testing.T) { // P10.1
	for _, f := range frames() {
		for _, x := range []struct {
			off, width int
			e          api.Errno
		}{
			{0, 0, api.ErrWidth}, {0, 1, api.ErrWidth}, {1, 2, api.ErrWidth}, {0, -4, api.ErrWidth}, {-1, 3, api.ErrWidth}, {f.size, 16, api.ErrWidth},
			{0, math.MinInt, api.ErrWidth}, {0, math.MaxInt, api.ErrWidth}, {math.MaxInt, math.MaxInt, api.ErrWidth},
			{1, 4, api.ErrAlign}, {4, 8, api.ErrAlign}, {12, 8, api.ErrAlign}, {-1, 4, api.ErrAlign}, {-4, 8, api.ErrAlign}, {f.size - 4, 8, api.ErrAlign},
			{f.size + 1, 4, api.ErrAlign}, {f.size + 4, 8, api.ErrAlign}, {math.MaxInt, 4, api.ErrAlign}, {math.MaxInt - 3, 8, api.ErrAlign},
			{math.MinInt + 4, 8, api.ErrAlign}, {math.MinInt + 1, 4, api.ErrAlign}, {0xa4, 8, api.ErrAlign},
			{-4, 4, api.ErrUnmapped}, {-8, 8, api.ErrUnmapped}, {f.size, 4, api.ErrUnmapped}, {f.size, 8, api.ErrUnmapped}, {f.size + 8, 8, api.ErrUnmapped},
			{math.MinInt, 4, api.ErrUnmapped}, {math.MinInt, 8, api.ErrUnmapped}, {math.MaxInt - 3, 4, api.ErrUnmapped},
			{math.MaxInt - 7, 4, api.ErrUnmapped}, {math.MaxInt - 7, 8, api.ErrUnmapped}, {1 << 32, 4, api.ErrUnmapped}, {1 << 62, 8, api.ErrUnmapped},
		} {
			decodes(t, f, x.off, x.width, answer{e: x.e})
		}
	}
}

func TestAccessesOfTheOtherWidth(t *testing.T) { // P10.1
	for _, f := range frames() {
		for _, k := range f.kinds {
			other := 12 - k.width
			for off := k.from / other * other; off < k.upTo; off += other {
				decodes(t, f, off, other, answer{e: api.ErrWidth})
			}
		}
	}
}

// spots returns where each interrupt is described in a frame: by register and number.
func spots(f frame) map[api.Reg]map[int]spot {
	all := map[api.Reg]map[int]spot{}
	for off, c := range cells(f) {
		for _, id := range c.ids {
			if all[c.reg] == nil {
				all[c.reg] = map[int]spot{}
			}
			all[c.reg][id] = spot{off / c.width * c.width, c.width, true}
		}
	}
	return all
}

func TestAt(t *testing.T) { // P10.2
	want := spots(frames()[0])
	numbers := ends()
	for id := -80; id < 1200; id++ {
		numbers = append(numbers, id)
	}
	for _, reg := range registers() {
		for _, id := range numbers {
			off, width, is := regs.At(reg, id)
			if (spot{off, width, is}) != want[reg][id] {
				t.Errorf("At(%d, %d): %#x, %d, %v, want %v", int(reg), id, off, width, is, want[reg][id])
			}
		}
	}
}

func TestWrittenOutSpots(t *testing.T) { // P10.2
	for _, x := range []struct {
		reg  api.Reg
		id   int
		want spot
	}{
		{api.Igroup, 0, spot{0x80, 4, true}}, {api.Igroup, 31, spot{0x80, 4, true}}, {api.Igroup, 32, spot{0x84, 4, true}},
		{api.Igroup, 1023, spot{0xfc, 4, true}}, {api.Igroup, 1024, spot{}}, {api.Igroup, -1, spot{}}, {api.Isenable, 63, spot{0x104, 4, true}},
		{api.Icenable, 64, spot{0x188, 4, true}}, {api.Ispend, 40, spot{0x204, 4, true}}, {api.Icpend, 40, spot{0x284, 4, true}},
		{api.Isactive, 40, spot{0x304, 4, true}}, {api.Icactive, 1020, spot{0x3fc, 4, true}}, {api.Ipriority, 0, spot{0x400, 4, true}},
		{api.Ipriority, 3, spot{0x400, 4, true}}, {api.Ipriority, 4, spot{0x404, 4, true}}, {api.Ipriority, 1023, spot{0x7fc, 4, true}},
		{api.Ipriority, 1024, spot{}}, {api.Ipriority, 8192, spot{}}, {api.Icfg, 15, spot{0xc00, 4, true}}, {api.Icfg, 16, spot{0xc04, 4, true}},
		{api.Icfg, 1023, spot{0xcfc, 4, true}}, {api.Icfg, 1024, spot{}}, {api.Irouter, 31, spot{}}, {api.Irouter, 32, spot{0x6100, 8, true}},
		{api.Irouter, 33, spot{0x6108, 8, true}}, {api.Irouter, 1023, spot{0x7ff8, 8, true}}, {api.Irouter, 1024, spot{}}, {api.Irouter, 0, spot{}},
		{api.Ctlr, 0, spot{}}, {api.Typer, 0, spot{}}, {api.NoReg, 0, spot{}}, {api.Waker, 0, spot{}}, {api.Creadr, 32, spot{}}, {api.Propbase, 0, spot{}},
		{api.Igroup, math.MinInt, spot{}}, {api.Igroup, math.MaxInt, spot{}}, {api.Irouter, math.MinInt, spot{}}, {api.Irouter, math.MinInt + 31, spot{}},
		{api.Irouter, math.MinInt + 32, spot{}}, {api.Irouter, math.MaxInt, spot{}}, {math.MinInt, 0, spot{}}, {math.MaxInt, 0, spot{}}, {-1, 0, spot{}},
	} {
		if off, width, is := regs.At(x.reg, x.id); (spot{off, width, is}) != x.want {
			t.Errorf("At(%d, %d): %#x, %d, %v, want %v", int(x.reg), x.id, off, width, is, x.want)
		}
	}
}

func TestAtAndDistAgree(t *testing.T) { // P10.1, P10.2, P10.3
	for off := 0; off < 1<<16; off += 4 {
		for _, width := range []int{4, 8} {
			p, e := regs.Dist(off, width)
			if e != api.OK {
				continue
			}
			for id := range regs.Ids(p) {
				if at, w, is := regs.At(p.Reg, id); (spot{at, w, is}) != (spot{off, width, true}) || !regs.Tells(p, id) {
					t.Errorf("At(%d, %d): %#x, %d, %v, but Dist(%#x, %d) is %v", int(p.Reg), id, at, w, is, off, width, p)
				}
			}
		}
	}
}

func TestIds(t *testing.T) { // P10.3
	for _, x := range []struct {
		first, count int
		want         []int
	}{
		{0, 0, nil}, {32, 0, nil}, {32, -1, nil}, {32, math.MinInt, nil}, {math.MinInt, math.MinInt, nil}, {math.MaxInt, -1, nil}, {0, 1, []int{0}},
		{32, 1, []int{32}}, {4, 4, []int{4, 5, 6, 7}}, {1020, 4, []int{1020, 1021, 1022, 1023}}, {-2, 4, []int{-2, -1, 0, 1}}, {16383, 2, []int{16383, 16384}},
		{math.MinInt, 2, []int{math.MinInt, math.MinInt + 1}}, {math.MaxInt - 1, 2, []int{math.MaxInt - 1, math.MaxInt}}, {math.MaxInt, 1, []int{math.MaxInt}},
		{math.MaxInt - 1, 4, []int{math.MaxInt - 1, math.MaxInt, math.MinInt, math.MinInt + 1}},
	} {
		for _, reg := range registers() {
			p := api.Place{Reg: reg, First: x.first, Count: x.count}
			if got := slices.Collect(regs.Ids(p)); !slices.Equal(got, x.want) {
				t.Errorf("Ids(%v): %v, want %v", p, got, x.want)
			}
		}
	}
}

func TestIdsOfManyInterrupts(t *testing.T) { // P10.3
	for _, first := range []int{math.MinInt, -8000, 0, 32, 8192, 16000, math.MaxInt - 20000, math.MaxInt - 16383, math.MaxInt - 5, math.MaxInt} {
		for _, count := range []int{16000, 16383, 16384, 16385, 16400, 1 << 20, 1 << 32, 1<<32 + 1, math.MaxInt - 1, math.MaxInt} {
			n := 0
			for id := range regs.Ids(api.Place{Reg: api.Igroup, First: first, Count: count}) {
				if id != first+n {
					t.Fatalf("{%d, %d}: number %d of Ids: %d", first, count, n, id)
				}
				if n++; n > 20000 {
					break
				}
			}
			if n != min(count, 16384) {
				t.Errorf("{%d, %d}: Ids yields %d numbers", first, count, n)
			}
		}
	}
}

func TestIdsAgain(t *testing.T) { // P10.3
	p := api.Place{Reg: api.Icfg, First: 16, Count: 5}
	five := []int{16, 17, 18, 19, 20}
	for most := range 7 {
		if got, want := ids(p, most), five[:min(most, 5)]; !slices.Equal(got, want) {
			t.Errorf("left after %d: %v, want %v", most, got, want)
		}
	}
	row := regs.Ids(p)
	p.First, p.Count = 99, 1
	for range 3 {
		for range row {
			break
		}
		if got := slices.Collect(row); !slices.Equal(got, five) {
			t.Errorf("again: %v", got)
		}
	}
	var pairs []int
	for a := range row {
		for b := range row {
			if b > a {
				break
			}
			pairs = append(pairs, 100*a+b)
		}
	}
	want := []int{
		1616, 1716, 1717, 1816, 1817, 1818, 1916, 1917, 1918, 1919, 2016, 2017, 2018, 2019, 2020,
	}
	if !slices.Equal(pairs, want) {
		t.Errorf("nested: %v", pairs)
	}
}

func TestTells(t *testing.T) { // P10.3
	for _, x := range []struct {
		first, count, id int
		want             bool
	}{
		{4, 4, 3, false}, {4, 4, 4, true}, {4, 4, 7, true}, {4, 4, 8, false}, {4, 4, -4, false}, {0, 0, 0, false}, {0, 1, 0, true}, {0, 1, 1, false},
		{0, -1, 0, false}, {0, -1, -1, false}, {5, math.MinInt, 5, false}, {5, math.MinInt, 6, false}, {0, math.MinInt, math.MinInt, false},
		{-3, 4, -4, false}, {-3, 4, -3, true}, {-3, 4, 0, true}, {-3, 4, 1, false}, {0, 16384, 16383, true}, {0, 16384, 16384, false},
		{0, 16385, 16384, false}, {0, math.MaxInt, 16383, true}, {0, math.MaxInt, 16384, false}, {100, math.MaxInt, 16483, true},
		{100, math.MaxInt, 16484, false}, {100, math.MaxInt, 99, false}, {100, math.MaxInt, math.MaxInt, false}, {math.MinInt, 1, math.MinInt, true},
		{math.MinInt, 1, math.MaxInt, false}, {math.MinInt, 1, 0, false}, {math.MaxInt, 1, math.MaxInt, true}, {math.MaxInt, 1, math.MinInt, false},
		{math.MaxInt, 2, math.MinInt, true}, {math.MaxInt, 2, math.MinInt + 1, false}, {math.MaxInt, math.MaxInt, math.MinInt + 16382, true},
		{math.MaxInt, math.MaxInt, math.MinInt + 16383, false}, {math.MaxInt, math.MaxInt, math.MaxInt - 1, false},
	} {
		for _, reg := range registers() {
			p := api.Place{Reg: reg, First: x.first, Count: x.count}
			if got := regs.Tells(p, x.id); got != x.want {
				t.Errorf("Tells(%v, %d): %v", p, x.id, got)
			}
		}
	}
}

func TestTellsAndIdsAgree(t *testing.T) { // P10.3
	for _, first := range []int{math.MinInt, -1, 0, 31, 32, 16383, math.MaxInt - 3, math.MaxInt} {
		for _, count := range []int{math.MinInt, -1, 0, 1, 2, 3, 32, 33} {
			p := api.Place{Reg: api.Ispend, First: first, Count: count}
			now := slices.Collect(regs.Ids(p))
			near := ends()
			for k := -40; k < 80; k++ {
				near = append(near, first+k)
			}
			for _, id := range near {
				if got, want := regs.Tells(p, id), slices.Contains(now, id); got != want {
					t.Errorf("Tells(%v, %d): %v", p, id, got)
				}
			}
		}
	}
}

func TestWrittenOutFields(t *testing.T) { // P10.3
	for _, x := range []struct {
		v     uint64
		reg   api.Reg
		count int
		k     int
		want  uint64
	}{
		{0x0a000000, api.Ipriority, 4, 3, 10}, {0x0a0b0c0d, api.Ipriority, 4, 0, 13}, {0x0a0b0c0d, api.Ipriority, 4, 1, 12}, {0x0a0b0c0d, api.Ipriority, 3, 3, 0},
		{1<<64 - 1, api.Ipriority, 8, 7, 255}, {1<<64 - 1, api.Ipriority, 9, 8, 0}, {1<<64 - 1, api.Ipriority, math.MaxInt, 1 << 61, 0},
		{1<<64 - 1, api.Ipriority, math.MaxInt, 1<<61 + 1, 0}, {5, api.Isenable, 32, 0, 1}, {5, api.Isenable, 32, 1, 0}, {5, api.Isenable, 32, 2, 1},
		{5, api.Isenable, 2, 2, 0}, {1 << 31, api.Igroup, 32, 31, 1}, {1 << 32, api.Igroup, 32, 32, 0}, {1 << 32, api.Igroup, 33, 32, 1},
		{1 << 63, api.Igroup, 64, 63, 1}, {1<<64 - 1, api.Igroup, 65, 64, 0}, {1<<64 - 1, api.Igroup, math.MaxInt, math.MaxInt - 1, 0},
		{0x1b, api.Icfg, 16, 0, 3}, {0x1b, api.Icfg, 16, 1, 2}, {0x1b, api.Icfg, 16, 2, 1}, {0x1b, api.Icfg, 16, 3, 0}, {1 << 63, api.Icfg, 32, 31, 2},
		{1<<64 - 1, api.Icfg, 33, 32, 0}, {1<<64 - 1, api.Icfg, math.MaxInt, 1 << 62, 0}, {1<<64 - 1, api.Irouter, 1, 0, 1<<63 - 1},
		{1<<64 - 1, api.Irouter, 2, 1, 1}, {1 << 63, api.Irouter, 1, 0, 0}, {1 << 63, api.Irouter, 2, 1, 1}, {1<<63 - 1, api.Irouter, 2, 1, 0},
		{1<<64 - 1, api.Irouter, 3, 2, 0}, {1<<31 + 7, api.Irouter, 1, 0, 1<<31 + 7}, {1<<64 - 1, api.Ctlr, 1, 0, 1}, {1<<64 - 1, api.NoReg, 1, 0, 1},
		{1<<64 - 1, api.Ctlr, 0, 0, 0}, {1<<64 - 1, api.Igroup, 32, -1, 0}, {1<<64 - 1, api.Igroup, -1, 0, 0}, {1<<64 - 1, api.Igroup, -1, -2, 0},
		{1<<64 - 1, api.Igroup, math.MinInt, 0, 0}, {1<<64 - 1, api.Igroup, math.MinInt, 1, 0}, {1<<64 - 1, api.Ipriority, 4, math.MinInt, 0},
	} {
		p := api.Place{Reg: x.reg, First: 32, Count: x.count}
		if got := regs.Field(x.v, p, x.k); got != x.want {
			t.Errorf("Field(%#x, %v, %d): %#x, want %#x", x.v, p, x.k, got, x.want)
		}
	}
}

func TestWrittenOutValues(t *testing.T) { // P10.3
	for _, x := range []struct {
		v     uint64
		reg   api.Reg
		count int
		k     int
		x     uint64
		want  uint64
	}{
		{0, api.Ipriority, 4, 1, 0x1ff, 0xff00}, {1<<64 - 1, api.Ipriority, 4, 1, 0, 1<<64 - 1 - 0xff00}, {0, api.Ipriority, 4, 4, 0xff, 0},
		{0, api.Ipriority, 8, 7, 0x1a5, 0xa5 << 56}, {7, api.Ipriority, 9, 8, 0xff, 7}, {7, api.Ipriority, math.MaxInt, 1 << 61, 0xff, 7},
		{0, api.Isenable, 32, 5, 1, 32}, {32, api.Isenable, 32, 5, 2, 0}, {0, api.Isenable, 32, 31, 3, 1 << 31}, {9, api.Isenable, 32, 32, 1, 9},
		{0, api.Isenable, 64, 63, 1<<64 - 1, 1 << 63}, {9, api.Isenable, 65, 64, 1, 9}, {0, api.Icfg, 16, 15, 6, 2 << 30}, {0, api.Icfg, 32, 31, 7, 3 << 62},
		{0xf, api.Icfg, 16, 1, 1, 7}, {0, api.Irouter, 1, 0, 1<<64 - 1, 1<<63 - 1}, {1 << 63, api.Irouter, 1, 0, 5, 1<<63 + 5},
		{1<<64 - 1, api.Irouter, 1, 0, 0, 1 << 63}, {5, api.Irouter, 1, 1, 1, 5}, {5, api.Irouter, 2, 1, 3, 1<<63 + 5}, {1<<63 + 5, api.Irouter, 2, 1, 2, 5},
		{5, api.Irouter, 3, 2, 1<<64 - 1, 5}, {0, api.Ctlr, 1, 0, 1<<64 - 1, 1}, {0, api.NoReg, 2, 1, 1, 2}, {0, api.Ctlr, 0, 0, 1, 0},
		{6, api.Igroup, 32, -1, 1, 6}, {6, api.Igroup, -1, 0, 1, 6}, {6, api.Igroup, math.MinInt, 0, 1, 6}, {6, api.Ipriority, 4, math.MinInt, 1, 6},
	} {
		p := api.Place{Reg: x.reg, First: 32, Count: x.count}
		if got := regs.With(x.v, p, x.k, x.x); got != x.want {
			t.Errorf("With(%#x, %v, %d, %#x): %#x, want %#x", x.v, p, x.k, x.x, got, x.want)
		}
	}
}

// ks lists the interrupts of places that come into question; for some, the product with a field's bits wraps around to a
// bit of the value.
func ks() []int {
	some := ends()
	for k := -3; k < 70; k++ {
		some = append(some, k)
	}
	back := uint64(1) // in the end, 63 times back is 1
	for range 6 {
		back *= 2 - 63*back
	}
	for bit := range uint64(64) {
		some = append(some, int(back*bit))
	}
	return some
}

func TestFields(t *testing.T) { // P10.3
	counts := []int{math.MinInt, math.MinInt + 1, -1, 0, 1, 2, 4, 8, 9, 16, 31, 32, 33, 63, 64, 65, 16384, 16385, 1 << 61, 1<<62 + 1, math.MaxInt - 1, math.MaxInt}
	for _, reg := range registers() {
		for _, count := range counts {
			p := api.Place{Reg: reg, First: 32, Count: count}
			for i, k := range ks() {
				v := values()[i%len(values())]
				if got, want := regs.Field(v, p, k), field(v, p, k); got != want {
					t.Errorf("Field(%#x, %v, %d): %#x, want %#x", v, p, k, got, want)
				}
				x := values()[(i*5+3)%len(values())]
				if got, want := regs.With(v, p, k, x), with(v, p, k, x); got != want {
					t.Errorf("With(%#x, %v, %d, %#x): %#x, want %#x", v, p, k, x, got, want)
				}
			}
		}
	}
}

func TestFieldsOfEachValue(t *testing.T) { // P10.3
	for _, reg := range []api.Reg{api.Igroup, api.Icfg, api.Ipriority, api.Irouter} {
		p := api.Place{Reg: reg, First: 0, Count: 64}
		for _, v := range values() {
			for k := range 64 {
				if got, want := regs.Field(v, p, k), field(v, p, k); got != want {
					t.Errorf("Field(%#x, %v, %d): %#x, want %#x", v, p, k, got, want)
				}
				for _, x := range values() {
					if got, want := regs.With(v, p, k, x), with(v, p, k, x); got != want {
						t.Errorf("With(%#x, %v, %d, %#x): %#x, want %#x", v, p, k, x, got, want)
					}
				}
			}
		}
	}
}

func TestFirstDoesNotMatterToFields(t *testing.T) { // P10.3
	for _, first := range ends() {
		p := api.Place{Reg: api.Ipriority, First: first, Count: 4}
		if got := regs.Field(0x0a0b0c0d, p, 1); got != 0x0c {
			t.Errorf("Field with %v: %#x", p, got)
		}
		if got := regs.With(0x0a0b0c0d, p, 1, 0xee); got != 0x0a0bee0d {
			t.Errorf("With with %v: %#x", p, got)
		}
	}
}

func TestAValueIsMadeOfItsFields(t *testing.T) { // P10.3
	for _, f := range frames() {
		for off := 0; off < f.size; off += 4 {
			for _, width := range []int{4, 8} {
				p, e := f.decode(off, width)
				if e != api.OK || p.Count == 0 {
					continue
				}
				v := uint64(0x8967a5c3f1e2d0b4) >> (64 - 8*width)
				if p.Reg == api.Irouter {
					v &= 1<<63 - 1 // the only bit of an access that belongs to no field
				}
				made := uint64(0)
				for id := range regs.Ids(p) {
					made = regs.With(made, p, id-p.First, regs.Field(v, p, id-p.First))
				}
				if made != v {
					t.Errorf("%s(%#x, %d): %#x, want %#x", f.name, off, width, made, v)
				}
			}
		}
	}
}
