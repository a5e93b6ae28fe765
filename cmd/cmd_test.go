package cmd_test

import (
	"bytes"
	"encoding/binary"
	"fmt"
	"math"
	"slices"
	"strings"
	"testing"

	"crier/api"
	"crier/cmd"
	"crier/mem"
)

func TestExamples(t *testing.T) { // P16.1, P16.3
	for _, x := range []struct {
		c    api.Command
		w    [4]uint64
		text string
	}{
		{api.Command{Op: api.Mapti, Device: 3, Event: 2, Number: 8200, Coll: 1}, [4]uint64{0x30000000a, 0x200800000002, 1, 0}, "mapti 3 2 8200 1"},
		{api.Command{Op: api.Mapd, Device: 1, Bits: 3, Addr: 2048, Valid: true}, [4]uint64{0x100000008, 3, 1<<63 + 2048, 0}, "mapd 1 3 8 1"},
	} {
		same(t, x.c, x.w, x.text)
	}
	if w, e := cmd.Encode(api.Command{Op: api.Sync, Coll: 1}); w != [4]uint64{} || e != api.ErrCommand {
		t.Errorf("Encode: %#x, %d", w, e)
	}
	if c, e := cmd.Parse("int 1"); c != (api.Command{}) || e != api.ErrCommand {
		t.Errorf("Parse: %v, %d", c, e)
	}
}

// same reports where a command, its words and its text do not belong together.
func same(t *testing.T, c api.Command, w [4]uint64, text string) {
	t.Helper()
	if got, e := cmd.Encode(c); got != w || e != api.OK {
		t.Errorf("Encode(%v): %#x, %d, want %#x", c, got, e, w)
	}
	if got, e := cmd.Decode(w); got != c || e != api.OK {
		t.Errorf("Decode(%#x): %v, %d, want %v", w, got, e, c)
	}
	if got, e := cmd.Print(c); got != text || e != api.OK {
		t.Errorf("Print(%v): %q, %d, want %q", c, got, e, text)
	}
	if got, e := cmd.Parse(text); got != c || e != api.OK {
		t.Errorf("Parse(%q): %v, %d, want %v", text, got, e, c)
	}
}

func TestWrittenOut(t *testing.T) { // P16.1, P16.3
	const most, sixteen = 1<<32 - 1, 1<<16 - 1
	for _, x := range []struct {
		c    api.Command
		w    [4]uint64
		text string
	}{
		{api.Command{Op: api.Movi, Device: 5, Event: 6, Coll: 7}, [4]uint64{0x500000001, 6, 7, 0}, "movi 5 6 7"},
		{api.Command{Op: api.Movi}, [4]uint64{1, 0, 0, 0}, "movi 0 0 0"},
		{api.Command{Op: api.Int, Device: 0x12345678, Event: 0x9abcdef0}, [4]uint64{0x1234567800000003, 0x9abcdef0, 0, 0}, "int 305419896 2596069104"},
		{api.Command{Op: api.ClearOp, Device: 1, Event: 2}, [4]uint64{0x100000004, 2, 0, 0}, "clear 1 2"},
		{api.Command{Op: api.Sync, Target: 0x1234}, [4]uint64{5, 0, 0x12340000, 0}, "sync 4660"},
		{api.Command{Op: api.Sync}, [4]uint64{5, 0, 0, 0}, "sync 0"},
		{api.Command{Op: api.Mapd, Device: 9}, [4]uint64{0x900000008, 0, 0, 0}, "mapd 9 0 0 0"},
		{api.Command{Op: api.Mapd, Addr: 256}, [4]uint64{8, 0, 256, 0}, "mapd 0 0 1 0"},
		{
			api.Command{Op: api.Mapd, Device: most, Bits: 31, Addr: 1<<48 - 256, Valid: true},
			[4]uint64{0xffffffff00000008, 31, 0x8000ffffffffff00, 0}, "mapd 4294967295 31 1099511627775 1",
		},
		{api.Command{Op: api.Mapc, Coll: 3, Target: 4, Valid: true}, [4]uint64{9, 0, 0x8000000000040003, 0}, "mapc 3 4 1"},
		{api.Command{Op: api.Mapc, Coll: sixteen, Target: sixteen}, [4]uint64{9, 0, 0xffffffff, 0}, "mapc 65535 65535 0"},
		{
			api.Command{Op: api.Mapti, Device: most, Event: most, Number: most, Coll: sixteen},
			[4]uint64{0xffffffff0000000a, math.MaxUint64, 0xffff, 0}, "mapti 4294967295 4294967295 4294967295 65535",
		},
		{api.Command{Op: api.Mapi, Device: 4, Event: 3, Coll: 2}, [4]uint64{0x40000000b, 3, 2, 0}, "mapi 4 3 2"},
		{api.Command{Op: api.Inv, Device: 6, Event: 7}, [4]uint64{0x60000000c, 7, 0, 0}, "inv 6 7"},
		{api.Command{Op: api.InvallOp, Coll: 8}, [4]uint64{13, 0, 8, 0}, "invall 8"},
		{api.Command{Op: api.Movall, Number: 2, Target: 1}, [4]uint64{14, 0, 0x10000, 0x20000}, "movall 2 1"},
		{api.Command{Op: api.Movall, Number: sixteen, Target: 0}, [4]uint64{14, 0, 0, 0xffff0000}, "movall 65535 0"},
		{api.Command{Op: api.Discard, Device: 10, Event: 100}, [4]uint64{0xa0000000f, 100, 0, 0}, "discard 10 100"},
	} {
		same(t, x.c, x.w, x.text)
		writes(t, x.c)
		decodes(t, x.w)
		parses(t, x.text)
	}
}

func TestKnown(t *testing.T) { // P16.1
	n := 0
	for op := api.Op(0); op < 1000; op++ {
		if cmd.Known(op) {
			n++
		}
	}
	if n != 12 {
		t.Errorf("%d commands are known", n)
	}
	for _, op := range kinds() {
		if _, is := shapeOf(op); cmd.Known(op) != is {
			t.Errorf("Known(%d): %v", int(op), !is)
		}
	}
}

func TestOps(t *testing.T) { // P16.1, P16.3
	for _, op := range kinds() {
		for _, c := range []api.Command{{Op: op}, {Op: op, Device: 1}, {Op: op, Coll: 1}, {Op: op, Target: 1}, {Op: op, Number: 3, Target: 2}} {
			writes(t, c)
		}
		decodes(t, [4]uint64{uint64(op)})
		decodes(t, [4]uint64{uint64(op) | 3<<32, 5})
	}
}

func TestWrongCommands(t *testing.T) { // P16.1 to P16.3, W3
	for _, c := range []api.Command{
		{}, {Op: 2}, {Op: 6}, {Op: 7}, {Op: 16}, {Op: -1}, {Op: 256 + api.Sync}, {Op: math.MaxInt}, {Op: math.MinInt}, {Device: 1},
		{Op: api.Sync, Coll: 1}, {Op: api.Sync, Device: 1}, {Op: api.Sync, Valid: true}, {Op: api.Sync, Target: 65536}, {Op: api.Sync, Target: -1},
		{Op: api.Int, Number: 1}, {Op: api.Int, Coll: 1}, {Op: api.Int, Device: -1}, {Op: api.Int, Event: 1 << 32}, {Op: api.Int, Valid: true},
		{Op: api.Mapi, Number: 8192}, {Op: api.Mapi, Bits: 1}, {Op: api.Movi, Coll: 65536}, {Op: api.Movi, Target: 1}, {Op: api.Mapti, Number: -1},
		{Op: api.Mapti, Number: 1 << 32}, {Op: api.Mapti, Number: math.MinInt}, {Op: api.Mapti, Target: 1}, {Op: api.Mapti, Valid: true},
		{Op: api.Movall, Number: 65536}, {Op: api.Movall, Number: 1 << 32}, {Op: api.Movall, Coll: 1}, {Op: api.Movall, Device: 1},
		{Op: api.Mapc, Event: 1}, {Op: api.Mapc, Addr: 256}, {Op: api.Mapc, Number: 1}, {Op: api.Mapd, Event: 1}, {Op: api.Mapd, Bits: 32}, {Op: api.Mapd, Bits: -1},
		{Op: api.Mapd, Addr: 1}, {Op: api.Mapd, Addr: 255}, {Op: api.Mapd, Addr: 257}, {Op: api.Mapd, Addr: -1}, {Op: api.Mapd, Addr: -256},
		{Op: api.Mapd, Addr: 1 << 48}, {Op: api.Mapd, Addr: 1<<48 + 256}, {Op: api.Mapd, Addr: 1 << 62}, {Op: api.Mapd, Addr: math.MinInt},
		{Op: api.Mapd, Addr: math.MaxInt - 255}, {Op: api.Mapd, Coll: 1}, {Op: api.Mapd, Target: 1}, {Op: api.InvallOp, Event: 1}, {Op: api.InvallOp, Coll: 1 << 16},
	} {
		if w, e := cmd.Encode(c); w != [4]uint64{} || e != api.ErrCommand {
			t.Errorf("Encode(%v): %#x, %d", c, w, e)
		}
		if text, e := cmd.Print(c); text != "" || e != api.ErrCommand {
			t.Errorf("Print(%v): %q, %d", c, text, e)
		}
		b := mixed(64, 3)
		m := create(t, b)
		if e := cmd.Store(m, win(0, 64), 8, c); e != api.ErrCommand {
			t.Errorf("Store(%v): %d", c, e)
		}
		keeps(t, m, b)
	}
}

func TestEachField(t *testing.T) { // P16.1, P16.3
	for _, s := range shapes() {
		for _, c := range samples(s)[:8] {
			writes(t, c)
			for _, field := range fieldNames() {
				for _, n := range ends() {
					writes(t, with(c, field, n))
				}
			}
		}
	}
}

func TestTwoFields(t *testing.T) { // P16.1, P16.3
	few := []int{0, 1, -1, 255, 256, -256, 31, 32, 65535, 65536, 1<<32 - 1, 1 << 32, 1<<48 - 256, 1 << 48, math.MaxInt, math.MinInt}
	for op := api.Op(0); op < 17; op++ {
		for _, one := range fieldNames() {
			for _, two := range fieldNames() {
				for _, n := range few {
					for _, k := range few {
						writes(t, with(with(api.Command{Op: op}, one, n), two, k))
					}
				}
			}
		}
	}
}

func TestEachBit(t *testing.T) { // P16.1
	for _, s := range shapes() {
		for _, c := range samples(s) {
			w, e := encoded(c)
			if e != api.OK {
				t.Fatal(c, e)
			}
			decodes(t, w)
			for bit := range 256 {
				x := w
				x[bit/64] ^= 1 << (bit % 64)
				decodes(t, x)
			}
		}
	}
}

func TestTwoBits(t *testing.T) { // P16.1
	for op := range uint64(256) {
		decodes(t, [4]uint64{op})
		decodes(t, [4]uint64{math.MaxUint64&^0xff | op, math.MaxUint64, math.MaxUint64, math.MaxUint64})
	}
	for _, s := range shapes() {
		for one := range 256 {
			for two := range one {
				w := [4]uint64{uint64(s.op)}
				w[one/64] ^= 1 << (one % 64)
				w[two/64] ^= 1 << (two % 64)
				decodes(t, w)
			}
		}
	}
}

func TestWordsByChance(t *testing.T) { // P16.1
	next := roll(16)
	for range 20000 {
		s := shapes()[next(12)]
		w := [4]uint64{uint64(s.op)}
		for i := range w {
			// Of a few bits only, as words of many are none of a command.
			for range next(4) {
				w[i] |= 1 << (8*next(8) + next(8))
			}
		}
		decodes(t, w)
		if c, e := cmd.Decode(w); e == api.OK {
			if back, f := cmd.Encode(c); back != w || f != api.OK {
				t.Errorf("Encode(%v): %#x, %d, want %#x", c, back, f, w)
			}
		}
	}
}

func win(at, size int) api.Window { return api.Window{At: at, Size: size} }

// create returns a memory with these bytes.
func create(t *testing.T, b []byte) *mem.Mem {
	t.Helper()
	m, e := mem.New(len(b))
	if e != api.OK {
		t.Fatal(e)
	}
	m.Put(win(0, len(b)), b...)
	return m
}

// mixed returns so many bytes, all of which seed alone decides.
func mixed(size, seed int) []byte {
	b, next := make([]byte, size), roll(seed)
	for i := range b {
		b[i] = byte(next(256))
	}
	return b
}

// keeps reports where the memory differs from b.
func keeps(t *testing.T, m *mem.Mem, b []byte) {
	t.Helper()
	if got, _ := m.Bytes(win(0, m.Size())); !bytes.Equal(got, b) {
		t.Fatalf("memory: %v, want %v", got, b)
	}
}

// inBytes returns the words of a command as they are stored.
func inBytes(w [4]uint64) []byte {
	var b []byte
	for _, word := range w {
		b = binary.LittleEndian.AppendUint64(b, word)
	}
	return b
}

func TestStoreWrittenOut(t *testing.T) { // P16.2
	b := slices.Repeat([]byte{0xee}, 48)
	m := create(t, b)
	if e := cmd.Store(m, win(3, 45), 8, api.Command{Op: api.Mapd, Device: 0x01020304, Bits: 7, Addr: 0x0a0b0c0d0e00, Valid: true}); e != api.OK {
		t.Fatal(e)
	}
	copy(b[11:], []byte{8, 0, 0, 0, 4, 3, 2, 1, 7, 0, 0, 0, 0, 0, 0, 0, 0, 0xe, 0xd, 0xc, 0xb, 0xa, 0, 0x80, 0, 0, 0, 0, 0, 0, 0, 0})
	keeps(t, m, b)
	if e := cmd.Store(m, win(3, 45), 0, api.Command{Op: api.Movall, Number: 0x0605, Target: 0x0807}); e != api.OK {
		t.Fatal(e)
	}
	copy(b[3:], []byte{14, 0, 0, 0, 0, 0, 0, 0, 0, 0, 0, 0, 0, 0, 0, 0, 0, 0, 7, 8, 0, 0, 0, 0, 0, 0, 5, 6, 0, 0, 0, 0})
	keeps(t, m, b)
}

func TestStoreAndLoad(t *testing.T) { // P16.2
	for _, s := range shapes() {
		for i, c := range samples(s) {
			w, _ := encoded(c)
			for at := range 10 {
				for _, off := range []int{0, 8, 16, 64} {
					b := mixed(at+off+40, i)
					m := create(t, b)
					window := win(at, off+32+i%9)
					if at+window.Size > len(b) {
						window.Size = off + 32
					}
					if e := cmd.Store(m, window, off, c); e != api.OK {
						t.Fatalf("Store(%v, %d, %v): %d", window, off, c, e)
					}
					copy(b[at+off:], inBytes(w))
					keeps(t, m, b)
					if got, e := cmd.Load(m, window, off); got != c || e != api.OK {
						t.Fatalf("Load(%v, %d): %v, %d, want %v", window, off, got, e, c)
					}
					keeps(t, m, b)
				}
			}
		}
	}
}

func TestLoadOfWords(t *testing.T) { // P16.2
	for _, s := range shapes() {
		for _, c := range samples(s) {
			w, _ := encoded(c)
			for bit := range 256 {
				x := w
				x[bit/64] ^= 1 << (bit % 64)
				b := slices.Concat([]byte{1, 2, 3, 4, 5, 6, 7, 8, 9, 10, 11, 12}, inBytes(x), []byte{255})
				m := create(t, b)
				got, e := cmd.Load(m, win(4, 40), 8)
				if want, f := decoded(x); got != want || e != f {
					t.Fatalf("Load of %#x: %v, %d, want %v, %d", x, got, e, want, f)
				}
				keeps(t, m, b)
			}
		}
	}
	if c, e := cmd.Load(create(t, make([]byte, 32)), win(0, 32), 0); c != (api.Command{}) || e != api.ErrCommand {
		t.Errorf("Load of nothing: %v, %d", c, e)
	}
}

// unmapped reports where a command can be stored or loaded although it must not be.
func unmapped(t *testing.T, m *mem.Mem, b []byte, w api.Window, off int) {
	t.Helper()
	if e := cmd.Store(m, w, off, api.Command{Op: api.Sync, Target: 1}); e != api.ErrUnmapped {
		t.Errorf("Store(%v, %d): %d", w, off, e)
	}
	if e := cmd.Store(m, w, off, api.Command{Op: api.Sync, Target: -1}); e != api.ErrCommand {
		t.Errorf("Store(%v, %d) of a wrong command: %d", w, off, e)
	}
	if c, e := cmd.Load(m, w, off); c != (api.Command{}) || e != api.ErrUnmapped {
		t.Errorf("Load(%v, %d): %v, %d", w, off, c, e)
	}
	keeps(t, m, b)
}

func TestEveryOffset(t *testing.T) { // P16.2, W4
	// In a memory that is full of one command, so that only what is checked decides.
	w, _ := encoded(api.Command{Op: api.Sync, Target: 1})
	full := slices.Repeat(inBytes(w), 5)
	for at := 0; at <= 8; at += 8 {
		for size := 0; size <= 130; size++ {
			m := create(t, full)
			for off := -70; off <= 200; off++ {
				right := off%8 == 0 && off >= 0 && off+32 <= size
				if !right {
					unmapped(t, m, full, win(at, size), off)
					continue
				}
				_, want := decoded([4]uint64(words(full[at+off:])))
				if _, e := cmd.Load(m, win(at, size), off); e != want {
					t.Errorf("Load({%d, %d}, %d): %d, want %d", at, size, off, e, want)
				}
				if e := cmd.Store(m.Copy(), win(at, size), off, api.Command{Op: api.Sync}); e != api.OK {
					t.Errorf("Store({%d, %d}, %d): %d", at, size, off, e)
				}
			}
		}
	}
}

// words returns the first four words of some bytes.
func words(b []byte) []uint64 {
	var l []uint64
	for i := range 4 {
		l = append(l, binary.LittleEndian.Uint64(b[8*i:]))
	}
	return l
}

func TestWrongOffsets(t *testing.T) { // P16.2, W1
	b := slices.Repeat([]byte{5, 0, 0, 0, 0, 0, 0, 0}, 20)
	m := create(t, b)
	for _, off := range []int{
		-1, -8, -16, -32, -160, 1, 2, 4, 7, 9, 12, 127, 129, 136, 144, 160, 168, 1 << 32, 1 << 40, 1 << 62, math.MaxInt, math.MaxInt - 7, math.MaxInt - 31,
		math.MaxInt - 39, math.MinInt, math.MinInt + 8, math.MinInt + 32, math.MinInt + 128,
	} {
		unmapped(t, m, b, win(0, 160), off)
	}
}

func TestWrongWindows(t *testing.T) { // P16.2, W1
	b := slices.Repeat([]byte{5, 0, 0, 0, 0, 0, 0, 0}, 20)
	m := create(t, b)
	for _, w := range []api.Window{
		win(0, 161), win(1, 160), win(128, 33), win(160, 32), win(161, 0), win(-8, 64), win(-1, 33), win(-32, 32), win(0, -1), win(0, -32), win(64, -32),
		win(0, 31), win(0, 24), win(0, 0), win(160, 0), win(0, math.MaxInt), win(8, math.MaxInt), win(math.MaxInt, 32), win(math.MaxInt, 1),
		win(math.MinInt, 32), win(math.MinInt, math.MaxInt), win(math.MinInt, math.MinInt), win(0, math.MinInt), win(0, math.MinInt+31), win(32, math.MinInt),
		win(1<<40, 32), win(0, 1<<40), win(1<<63-32, 32), win(1<<62, 1<<62), win(1<<17, 32), win(0, 1<<17),
	} {
		for _, off := range []int{0, 8, 32, -8, 4, 160, math.MinInt, math.MaxInt - 7} {
			unmapped(t, m, b, w, off)
		}
	}
}

func TestGreatestMemory(t *testing.T) { // P16.2
	b := make([]byte, api.MaxMem)
	m := create(t, b)
	c := api.Command{Op: api.Discard, Device: 7, Event: 9}
	if e := cmd.Store(m, win(0, api.MaxMem), api.MaxMem-32, c); e != api.OK {
		t.Fatal(e)
	}
	if got, e := cmd.Load(m, win(api.MaxMem-32, 32), 0); got != c || e != api.OK {
		t.Errorf("Load: %v, %d", got, e)
	}
	w, _ := encoded(c)
	copy(b[api.MaxMem-32:], inBytes(w))
	keeps(t, m, b)
	unmapped(t, m, b, win(0, api.MaxMem), api.MaxMem-24)
	unmapped(t, m, b, win(8, api.MaxMem), 0)
}

func TestWrongTexts(t *testing.T) { // P16.3, W1, W3
	for _, text := range []string{
		"", " ", "  ", "0", "1 2 3", " sync 1", "sync  1", "sync 1 ", "sync 1\n", "sync\t1", "\tsync 1", "sync 1\x00", "sync", "sync ", "sync 01", "sync 00", "sync +1", "sync -1",
		"sync -0", "sync +0", "sync 1.", "sync 1.0", "sync 1e2", "sync 0x1", "sync 0b1", "sync 0o7", "sync 1_0", "sync x", "sync 1x", "sync 1 2", "sync 1 0", "sync 1,", "sync,1", "sync1",
		"Sync 1", "SYNC 1", "syn 1", "syncs 1", "sync 65536", "sync 4294967296", "sync 4294967297", "sync 9223372036854775807", "sync 9223372036854775808", "sync 18446744073709551615",
		"sync 18446744073709551616", "sync 18446744073709551617", "sync 340282366920938463463374607431768211457", "sync \u0661", "sync \uff11", "sync\u00a01", "sync \xff", "\xffsync 1",
		"noop", "nop 1", "5 1", "int", "int ", "int 1", "int 1 ", "int  1", "int 1  2", "int 1 2 ", "int 1 2 3", "int 1 -2", "int 1 4294967296", "clearop 1 2", "clear 1 2 0", "mov 1 2 3",
		"invallop 1", "invall", "invall 1 2", "inv 1", "inv all 1", "invall 65536", "mapc 0 0  1", "mapc 0 0", "mapc 0 0 2", "mapc 0 0 -1", "mapc 0 0 01", "mapc 0 0 true",
		"mapc 65536 0 1", "mapc 0 65536 1", "mapd 1 3 8", "mapd 1 3 8 2", "mapd 1 32 8 1", "mapd 1 3 1099511627776 1", "mapd 1 3 72057594037927936 1", "mapd 1 3 72057594037927944 1",
		"mapd 1 3 9223372036854775807 1", "mapd 1 3 -1 1", "mapd 4294967296 3 8 1", "mapd 1 3 8 1 0", "mapd 1 3 08 1", "movi 01 2 3", "movi 1 2 65536", "movi 1 2", "movi 1 2 3 4",
		"mapti 3 2 8200", "mapti 3 2 4294967296 1", "mapti 3 2 8200 65536", "mapti 3 2 8200 1 0", "mapi 3 2 8200 1", "movall 65536 1", "movall 1 65536", "movall 1", "movall 1 2 3",
		"discard 1", "discard 1 2 3", "discard 1 2\r\n", "mapti 3 2 8200 1\x00", "sync 1 " + strings.Repeat(" ", 1000), strings.Repeat("sync ", 1000), strings.Repeat("9", 1000),
		"sync " + strings.Repeat("0", 1000) + "1", "sync " + strings.Repeat("9", 1000), "sync 1" + strings.Repeat(" 1", 100000), strings.Repeat(" ", 1<<20),
	} {
		if c, e := cmd.Parse(text); c != (api.Command{}) || e != api.ErrCommand {
			t.Errorf("Parse(%.40q): %v, %d", text, c, e)
		}
	}
}

func TestTextsOfNumbers(t *testing.T) { // P16.3
	for _, s := range shapes() {
		for i := range s.parts {
			for _, n := range append(ends(), 2, 3, 31, 32, 1<<40-1, 1<<40) {
				fields := slices.Repeat([]string{"0"}, len(s.parts))
				fields[i] = fmt.Sprint(n)
				parses(t, s.name+" "+strings.Join(fields, " "))
				fields[i] = fmt.Sprint(uint64(n))
				parses(t, s.name+" "+strings.Join(fields, " "))
				fields[i] = "1" + fmt.Sprint(uint64(n))
				parses(t, s.name+" "+strings.Join(fields, " "))
			}
		}
	}
}

func TestNumbersOfFields(t *testing.T) { // P16.3
	for _, s := range shapes() {
		for n := range 7 {
			text := s.name
			for k := range n {
				text += " " + fmt.Sprint(k%2)
			}
			_, e := cmd.Parse(text)
			if (e == api.OK) != (n == len(s.parts)) {
				t.Errorf("Parse(%q): %d", text, e)
			}
			parses(t, text)
		}
	}
}

func TestTextsNearby(t *testing.T) { // P16.3
	letters := strings.Split("0129 -+_.xmSi\t\n\x00\x80", "")
	for _, s := range shapes() {
		for _, c := range samples(s)[:8] {
			text, _ := printed(c)
			for i := range len(text) + 1 {
				for _, letter := range letters {
					parses(t, text[:i]+letter+text[i:])
					if i < len(text) {
						parses(t, text[:i]+letter+text[i+1:])
					}
				}
				parses(t, text[:i])
				parses(t, text[i:])
				if i < len(text) {
					parses(t, text[:i]+text[i+1:])
				}
			}
		}
	}
}

func TestNamesWithOtherFields(t *testing.T) { // P16.3
	for _, s := range shapes() {
		for _, o := range shapes() {
			for _, c := range samples(o)[:6] {
				text, _ := printed(c)
				parses(t, s.name+strings.TrimPrefix(text, o.name))
			}
		}
	}
}

func TestAgain(t *testing.T) { // W2
	for _, s := range shapes() {
		for _, c := range samples(s) {
			writes(t, c)
			parses(t, "sync")
			decodes(t, [4]uint64{math.MaxUint64})
			writes(t, c)
		}
	}
}
