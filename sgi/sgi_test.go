package sgi_test

import (
	"math"
	"slices"
	"testing"

	"crier/api"
	"crier/sgi"
)

// ends lists numbers on both sides of those that the chapter names, and at both ends of int.
func ends() []int {
	return []int{
		math.MinInt, math.MinInt + 1, math.MinInt + 3, math.MinInt + 255, -1 << 32, -1<<32 + 5, -65536, -65535, -256, -16, -9, -8, -7, -2, -1, 0, 1, 2, 3,
		4, 5, 6, 7, 8, 9, 14, 15, 16, 17, 24, 31, 63, 64, 65, 127, 128, 255, 256, 257, 32767, 32768, 65534, 65535, 65536, 65537, 1 << 24, 1 << 31, 1 << 32,
		1<<32 + 1, 1 << 40, 1 << 62, math.MaxInt - 255, math.MaxInt - 1, math.MaxInt,
	}
}

// roll returns a source of numbers below a given one, which depend on seed alone.
func roll(seed int) func(n int) int {
	x := uint64(seed)*2 + 1
	return func(n int) int {
		x = x*6364136223846793005 + 1442695040888963407
		return int(x >> 33 % uint64(n))
	}
}

// word returns a number of 64 bits.
func word(next func(n int) int) uint64 {
	return uint64(next(1<<31))<<33 | uint64(next(1<<31))<<2 | uint64(next(4))
}

// has reports whether bit k of a number is 1.
func has(n, k int) bool { return uint64(n)>>k&1 == 1 }

// odd reports whether a bit of a value makes it odd.
func odd(bit int) bool {
	return 16 <= bit && bit <= 23 || 32 <= bit && bit <= 39 || 44 <= bit && bit <= 47 || 48 <= bit && bit <= 55
}

// decoded returns what Decode should return: bit by bit.
func decoded(v uint64) sgi.Call {
	var c sgi.Call
	for bit := range 64 {
		if v>>bit&1 == 0 {
			continue
		}
		switch {
		case bit <= 15:
			c.Targets += 1 << bit
		case 24 <= bit && bit <= 27:
			c.ID += 1 << (bit - 24)
		case bit == 40:
			c.All = true
		case odd(bit):
			c.Odd = true
		}
	}
	return c
}

// right reports whether a value stands for a call.
func right(c sgi.Call) bool {
	return 0 <= c.ID && c.ID <= 15 && 0 <= c.Targets && c.Targets <= 65535 && !c.Odd
}

// called lists what To should yield: processor by processor.
func called(c sgi.Call, from, cores int) []int {
	var l []int
	for k := 0; k < 8 && k < cores; k++ {
		switch {
		case c.All:
			if k != from {
				l = append(l, k)
			}
		case !c.Odd && has(c.Targets, k):
			l = append(l, k)
		}
	}
	return l
}

// calls lists calls of every kind, also such as no value stands for.
func calls() []sgi.Call {
	var all []sgi.Call
	for _, targets := range slices.Concat(ends(), []int{0x55, 0xaa, 0x5555, 0xaaaa, 0xff00, 0x0103, -0xab, -1 << 7, -1<<16 + 6}) {
		for n := range 4 {
			all = append(all, sgi.Call{ID: n, All: n&1 != 0, Targets: targets, Odd: n&2 != 0})
		}
	}
	return append(all, sgi.Call{ID: -1, Targets: 6}, sgi.Call{ID: 16, Targets: 6}, sgi.Call{ID: math.MaxInt, All: true}, sgi.Call{ID: math.MinInt, All: true})
}

func TestExamples(t *testing.T) { // P12.1 to P12.3
	c := sgi.Decode(0x05000003)
	if c != (sgi.Call{ID: 5, Targets: 3}) {
		t.Errorf("Decode: %v", c)
	}
	if l := slices.Collect(sgi.To(c, 0, 4)); !slices.Equal(l, []int{0, 1}) {
		t.Errorf("To: %v", l)
	}
	if l := slices.Collect(sgi.To(sgi.Decode(1<<40), 2, 4)); !slices.Equal(l, []int{0, 1, 3}) {
		t.Errorf("To all: %v", l)
	}
	c = sgi.Decode(0x10001)
	if !c.Odd || sgi.Many(c, 0, 4) != 0 || len(slices.Collect(sgi.To(c, 0, 4))) != 0 {
		t.Errorf("an odd call calls: %v", c)
	}
	if c, err := sgi.Whom(3, 1, 4); c != (sgi.Call{ID: 3, Targets: 18}) || err != api.OK {
		t.Errorf("Whom: %v, %d", c, err)
	}
}

func TestDecode(t *testing.T) { // P12.1
	for _, x := range []struct {
		v    uint64
		want sgi.Call
	}{
		{0, sgi.Call{}},
		{0xffff, sgi.Call{Targets: 65535}},
		{0x0f000000, sgi.Call{ID: 15}},
		{0xf0000000, sgi.Call{}},
		{0x0f00ffff, sgi.Call{ID: 15, Targets: 65535}},
		{0x00ff0000, sgi.Call{Odd: true}},
		{0x00ff_0e00_0000_0000, sgi.Call{Odd: true}},
		{0xff00_0e00_f000_0000, sgi.Call{}},
		{0x0000_0100_0800_8001, sgi.Call{ID: 8, All: true, Targets: 0x8001}},
		{0x0080_0100_0300_0002, sgi.Call{ID: 3, All: true, Targets: 2, Odd: true}},
		{math.MaxUint64, sgi.Call{ID: 15, All: true, Targets: 65535, Odd: true}},
	} {
		if got := sgi.Decode(x.v); got != x.want {
			t.Errorf("Decode(%#x): %v, want %v", x.v, got, x.want)
		}
	}
}

func TestDecodeOfEachBit(t *testing.T) { // P12.1
	try := func(v uint64) {
		t.Helper()
		if got, want := sgi.Decode(v), decoded(v); got != want {
			t.Errorf("Decode(%#x): %v, want %v", v, got, want)
		}
	}
	for i := range 64 {
		for k := range 64 {
			v := uint64(1)<<i | uint64(1)<<k
			try(v)
			try(^v)
		}
	}
	next := roll(12)
	for range 20000 {
		try(word(next))
	}
}

func TestEncode(t *testing.T) { // P12.2
	for _, x := range []struct {
		c    sgi.Call
		want uint64
		err  api.Errno
	}{
		{sgi.Call{}, 0, api.OK},
		{sgi.Call{ID: 5, Targets: 3}, 0x05000003, api.OK},
		{sgi.Call{ID: 15, Targets: 65535}, 0x0f00ffff, api.OK},
		{sgi.Call{All: true}, 1 << 40, api.OK},
		{sgi.Call{ID: 1, All: true, Targets: 0x8000}, 0x100_0100_8000, api.OK},
		{sgi.Call{ID: 16}, 0, api.ErrArg},
		{sgi.Call{ID: -1}, 0, api.ErrArg},
		{sgi.Call{ID: math.MaxInt}, 0, api.ErrArg},
		{sgi.Call{ID: math.MinInt}, 0, api.ErrArg},
		{sgi.Call{ID: 1 << 40}, 0, api.ErrArg}, // moved up, its only bit is lost
		{sgi.Call{Targets: 65536}, 0, api.ErrArg},
		{sgi.Call{Targets: 1 << 24}, 0, api.ErrArg},
		{sgi.Call{Targets: -1}, 0, api.ErrArg},
		{sgi.Call{Targets: math.MaxInt}, 0, api.ErrArg},
		{sgi.Call{Targets: math.MinInt}, 0, api.ErrArg},
		{sgi.Call{Odd: true}, 0, api.ErrArg},
		{sgi.Call{ID: 5, All: true, Targets: 3, Odd: true}, 0, api.ErrArg},
	} {
		if got, err := sgi.Encode(x.c); got != x.want || err != x.err {
			t.Errorf("Encode(%v): %#x, %d, want %#x, %d", x.c, got, err, x.want, x.err)
		}
	}
}

// encodes reports where Encode differs from what it should return.
func encodes(t *testing.T, c sgi.Call) {
	t.Helper()
	v, err := sgi.Encode(c)
	if !right(c) {
		if v != 0 || err != api.ErrArg {
			t.Errorf("Encode(%v): %#x, %d, want 0 and ErrArg", c, v, err)
		}
		return
	}
	if err != api.OK || decoded(v) != c || sgi.Decode(v) != c {
		t.Errorf("Encode(%v): %#x, %d", c, v, err)
	}
	for bit := range 64 {
		part := bit <= 15 || 24 <= bit && bit <= 27 || bit == 40
		if v>>bit&1 == 1 && !part {
			t.Errorf("Encode(%v): bit %d is 1", c, bit)
		}
	}
}

func TestEncodeIsTheWayBack(t *testing.T) { // P12.1, P12.2
	for _, id := range ends() {
		for _, targets := range ends() {
			for n := range 4 {
				encodes(t, sgi.Call{ID: id, All: n&1 != 0, Targets: targets, Odd: n&2 != 0})
			}
		}
	}
	for targets := -2; targets <= 1<<16+1; targets++ {
		encodes(t, sgi.Call{ID: targets & 15, All: targets&16 != 0, Targets: targets})
	}
	for id := -40; id <= 300; id++ {
		encodes(t, sgi.Call{ID: id, Targets: 9})
	}
}

func TestWhom(t *testing.T) { // P12.2
	for _, x := range []struct {
		id    int
		cores []int
		want  sgi.Call
		err   api.Errno
	}{
		{3, nil, sgi.Call{ID: 3}, api.OK},
		{3, []int{}, sgi.Call{ID: 3}, api.OK},
		{0, []int{0}, sgi.Call{Targets: 1}, api.OK},
		{15, []int{7}, sgi.Call{ID: 15, Targets: 128}, api.OK},
		{1, []int{7, 6, 5, 4, 3, 2, 1, 0}, sgi.Call{ID: 1, Targets: 255}, api.OK},
		{1, []int{2, 2, 2}, sgi.Call{ID: 1, Targets: 4}, api.OK},
		{1, []int{4, 0, 4, 0}, sgi.Call{ID: 1, Targets: 17}, api.OK},
		{3, []int{8}, sgi.Call{}, api.ErrCore},
		{3, []int{-1}, sgi.Call{}, api.ErrCore},
		{3, []int{1, 2, 8}, sgi.Call{}, api.ErrCore},
		{3, []int{8, 1, 2}, sgi.Call{}, api.ErrCore},
		{3, []int{1, math.MinInt, 2}, sgi.Call{}, api.ErrCore},
		{3, []int{1, math.MaxInt, 2}, sgi.Call{}, api.ErrCore},
		{3, []int{64}, sgi.Call{}, api.ErrCore},
		{16, nil, sgi.Call{}, api.ErrArg},
		{-1, nil, sgi.Call{}, api.ErrArg},
		{16, []int{1, 4}, sgi.Call{}, api.ErrArg},
		{math.MinInt, []int{0}, sgi.Call{}, api.ErrArg},
		{math.MaxInt, []int{7}, sgi.Call{}, api.ErrArg},
		{16, []int{8}, sgi.Call{}, api.ErrCore},
		{-1, []int{1, -1}, sgi.Call{}, api.ErrCore},
		{math.MaxInt, []int{1, 8}, sgi.Call{}, api.ErrCore},
	} {
		if got, err := sgi.Whom(x.id, x.cores...); got != x.want || err != x.err {
			t.Errorf("Whom(%d, %v): %v, %d, want %v, %d", x.id, x.cores, got, err, x.want, x.err)
		}
	}
}

func TestWhomOfEachSet(t *testing.T) { // P12.2, P12.3
	for targets := range 256 {
		var cores []int
		for k := range 8 {
			if has(targets, k) {
				cores = append(cores, k)
			}
		}
		c, err := sgi.Whom(targets&15, cores...)
		if want := (sgi.Call{ID: targets & 15, Targets: targets}); c != want || err != api.OK {
			t.Errorf("Whom(%d, %v): %v, %d, want %v", targets&15, cores, c, err, want)
		}
		if l := slices.Collect(sgi.To(c, 0, 8)); !slices.Equal(l, cores) {
			t.Errorf("To(%v): %v, want %v", c, l, cores)
		}
		if n := sgi.Spread(c); n != len(cores) {
			t.Errorf("Spread(%v): %d, want %d", c, n, len(cores))
		}
	}
}

func TestWhomAtTheEnds(t *testing.T) { // P12.2
	for _, id := range ends() {
		for _, core := range ends() {
			want, err := sgi.Call{}, api.OK
			switch {
			case core < 0 || core > 7:
				err = api.ErrCore
			case id < 0 || id > 15:
				err = api.ErrArg
			default:
				want = sgi.Call{ID: id, Targets: 1 << core}
			}
			if got, e := sgi.Whom(id, core); got != want || e != err {
				t.Errorf("Whom(%d, %d): %v, %d, want %v, %d", id, core, got, e, want, err)
			}
		}
	}
}

func TestWhomLeavesTheProcessorsAlone(t *testing.T) { // P12.2, W6
	cores := []int{5, 1, 1, 7}
	c, _ := sgi.Whom(2, cores[:3]...)
	if !slices.Equal(cores, []int{5, 1, 1, 7}) {
		t.Errorf("the processors have changed: %v", cores)
	}
	cores[0] = 3
	if l := slices.Collect(sgi.To(c, 0, 8)); !slices.Equal(l, []int{1, 5}) {
		t.Errorf("the call has changed with the processors: %v", l)
	}
}

func TestWrittenOutRecipients(t *testing.T) { // P12.3
	for _, x := range []struct {
		c           sgi.Call
		from, cores int
		want        []int
	}{
		{sgi.Call{Targets: 0xff}, 0, 8, []int{0, 1, 2, 3, 4, 5, 6, 7}}, // the caller may call itself
		{sgi.Call{Targets: 0xffff}, 3, 16, []int{0, 1, 2, 3, 4, 5, 6, 7}},
		{sgi.Call{Targets: 0xff00}, 3, 16, nil},
		{sgi.Call{Targets: 0xf0}, 0, 4, nil},
		{sgi.Call{Targets: 0xf0}, 0, 6, []int{4, 5}},
		{sgi.Call{Targets: 1}, 0, 1, []int{0}},
		{sgi.Call{Targets: 1}, 0, 0, nil},
		{sgi.Call{Targets: 1}, 0, -1, nil},
		{sgi.Call{Targets: 1}, 0, math.MinInt, nil},
		{sgi.Call{Targets: 129}, math.MaxInt, math.MaxInt, []int{0, 7}},
		{sgi.Call{Targets: -1}, 1, 3, []int{0, 1, 2}},
		{sgi.Call{Targets: math.MinInt}, 0, 8, nil},
		{sgi.Call{Targets: math.MinInt + 6}, 0, 8, []int{1, 2}},
		{sgi.Call{Targets: 1 << 32}, 0, 8, nil},
		{sgi.Call{Targets: 0xff, Odd: true}, 0, 8, nil},
		{sgi.Call{All: true}, 0, 8, []int{1, 2, 3, 4, 5, 6, 7}},
		{sgi.Call{All: true}, 7, 8, []int{0, 1, 2, 3, 4, 5, 6}},
		{sgi.Call{All: true, Targets: 1}, 0, 3, []int{1, 2}},
		{sgi.Call{All: true, Odd: true}, 1, 3, []int{0, 2}},
		{sgi.Call{All: true}, 0, 1, nil},
		{sgi.Call{All: true}, 3, 3, []int{0, 1, 2}},
		{sgi.Call{All: true}, -1, 3, []int{0, 1, 2}},
		{sgi.Call{All: true}, 8, 9, []int{0, 1, 2, 3, 4, 5, 6, 7}},
		{sgi.Call{All: true}, math.MinInt, 2, []int{0, 1}},
		{sgi.Call{All: true}, math.MaxInt, math.MaxInt, []int{0, 1, 2, 3, 4, 5, 6, 7}},
		{sgi.Call{All: true}, 0, math.MinInt, nil},
		{sgi.Call{ID: -1, Targets: 6}, 0, 8, []int{1, 2}},
		{sgi.Call{ID: math.MaxInt, Targets: 6}, 0, 8, []int{1, 2}},
	} {
		if l := slices.Collect(sgi.To(x.c, x.from, x.cores)); !slices.Equal(l, x.want) {
			t.Errorf("To(%v, %d, %d): %v, want %v", x.c, x.from, x.cores, l, x.want)
		}
		if n := sgi.Many(x.c, x.from, x.cores); n != len(x.want) {
			t.Errorf("Many(%v, %d, %d): %d, want %d", x.c, x.from, x.cores, n, len(x.want))
		}
	}
}

func TestRecipientsAtTheEnds(t *testing.T) { // P12.3
	for _, c := range calls() {
		for _, from := range ends() {
			for _, cores := range ends() {
				want := called(c, from, cores)
				if l := slices.Collect(sgi.To(c, from, cores)); !slices.Equal(l, want) {
					t.Fatalf("To(%v, %d, %d): %v, want %v", c, from, cores, l, want)
				}
				if n := sgi.Many(c, from, cores); n != len(want) {
					t.Fatalf("Many(%v, %d, %d): %d, want %d", c, from, cores, n, len(want))
				}
			}
		}
	}
}

func TestRecipientsOfEachSet(t *testing.T) { // P12.3
	for targets := range 256 {
		for cores := range 10 {
			c := sgi.Call{Targets: targets}
			want := called(c, 0, cores)
			if l := slices.Collect(sgi.To(c, 0, cores)); !slices.Equal(l, want) || sgi.Many(c, 0, cores) != len(want) {
				t.Errorf("To(%v, 0, %d): %v, want %v", c, cores, l, want)
			}
		}
	}
}

func TestSpread(t *testing.T) { // P12.3
	for _, x := range []struct{ targets, want int }{
		{0, 0}, {1, 1}, {3, 2}, {18, 2}, {0x8000, 1}, {0xff00, 8}, {0xffff, 16}, {0x10000, 0}, {0x1ffff, 16}, {1 << 32, 0}, {-1, 16}, {-2, 15}, {-65536, 0},
		{math.MaxInt, 16}, {math.MaxInt - 1, 15}, {math.MinInt, 0}, {math.MinInt + 1, 1},
	} {
		for n := range 4 {
			c := sgi.Call{ID: 9 - 6*n, All: n&1 != 0, Targets: x.targets, Odd: n&2 != 0}
			if got := sgi.Spread(c); got != x.want {
				t.Errorf("Spread(%v): %d, want %d", c, got, x.want)
			}
		}
	}
	for targets := -3; targets <= 1<<16+3; targets++ {
		want := 0
		for k := range 16 {
			if has(targets, k) {
				want++
			}
		}
		if got := sgi.Spread(sgi.Call{Targets: targets}); got != want {
			t.Errorf("Spread of %d: %d, want %d", targets, got, want)
		}
	}
}

func TestLoopsLeftEarlyAndAgain(t *testing.T) { // P12.3, W8
	for _, c := range []sgi.Call{{Targets: 0xb5}, {All: true}, {Targets: 0xff}, {Targets: 8}, {Odd: true, Targets: 1}} {
		s, want := sgi.To(c, 3, 8), called(c, 3, 8)
		for most := range len(want) {
			var l []int
			for k := range s {
				l = append(l, k)
				if len(l) > most {
					break
				}
			}
			if !slices.Equal(l, want[:most+1]) {
				t.Errorf("To(%v), left early: %v, want %v", c, l, want[:most+1])
			}
		}
		for range 2 {
			if l := slices.Collect(s); !slices.Equal(l, want) {
				t.Errorf("To(%v) again: %v, want %v", c, l, want)
			}
		}
	}
}

func TestNothingIsYieldedAfterTheLoopIsLeft(t *testing.T) { // P12.3, W8
	for _, c := range []sgi.Call{{Targets: 0xb5}, {All: true}} {
		for most := 1; most <= 5; most++ {
			n := 0
			sgi.To(c, 3, 8)(func(int) bool {
				n++
				return n < most
			})
			if n != min(most, len(called(c, 3, 8))) {
				t.Errorf("To(%v), left after %d: yields %d times", c, most, n)
			}
		}
	}
}

func TestLoopsWithinOneAnother(t *testing.T) { // P12.3, W8
	c := sgi.Call{Targets: 0x4d}
	s := sgi.To(c, 0, 8)
	var got, want [][2]int
	for i := range s {
		for k := range s {
			got = append(got, [2]int{i, k})
		}
	}
	for _, i := range called(c, 0, 8) {
		for _, k := range called(c, 0, 8) {
			want = append(want, [2]int{i, k})
		}
	}
	if !slices.Equal(got, want) {
		t.Errorf("To(%v) within itself: %v, want %v", c, got, want)
	}
}

func TestIteratorsKeepTheirCall(t *testing.T) { // P12.3: a call is a value, so what was changed is another one
	c := sgi.Call{Targets: 6}
	s := sgi.To(c, 0, 8)
	c.Targets, c.All = 255, true
	if l := slices.Collect(s); !slices.Equal(l, []int{1, 2}) {
		t.Errorf("To of a call that was changed later: %v, want 1 and 2", l)
	}
}
