package tables_test

import (
	"encoding/binary"
	"math"
	"slices"
	"testing"

	"crier/api"
	"crier/tables"
)

func TestExample(t *testing.T) { // P18.1 to P18.3
	p, x, d, r := start(t, make([]byte, 512)), in(0, 32, 32), dev(1, 256), to(8200, 2)
	if got, e := x.Get(p.m, 5); got != (tables.Device{}) || e != api.ErrTable {
		t.Errorf("Get: %v, %d", got, e)
	}
	if e := x.Lead(p.m, 5, 64); e != api.OK {
		t.Errorf("Lead: %d", e)
	}
	if e := x.Put(p.m, 5, d); e != api.OK {
		t.Errorf("Put: %d", e)
	}
	if got, e := x.Get(p.m, 5); got != d || e != api.OK || got.Events() != 4 {
		t.Errorf("Get: %v, %d", got, e)
	}
	if v, _ := p.m.Read(win(72, 8), 0, 8); v != 1<<63+256+1 {
		t.Errorf("the device's entry: %#x", v)
	}
	if e := d.SetRoute(p.m, 3, r); e != api.OK {
		t.Errorf("SetRoute: %d", e)
	}
	if v, _ := p.m.Read(win(280, 8), 0, 8); v != 1<<63+2<<32+8200 {
		t.Errorf("the event's entry: %#x", v)
	}
	if l := all(d, p.m); !slices.Equal(l, []step{{3, r}}) || d.Many(p.m) != 1 {
		t.Errorf("Routes: %v, Many: %d", l, d.Many(p.m))
	}
	if got, e := d.Route(p.m, 4); got != (api.Route{}) || e != api.ErrEvent {
		t.Errorf("Route(4): %v, %d", got, e)
	}
}

func TestWrittenOut(t *testing.T) { // P18.1 to P18.4
	p, x := start(t, slices.Repeat([]byte{0xee}, 600)), in(3, 24, 16)
	set := func(at int, b ...byte) { copy(p.want.bytes[at:], b) }
	if e := x.Lead(p.m, 5, 0x0101); e != api.OK { // entry 2 leads to the devices 4 and 5
		t.Errorf("Lead: %d", e)
	}
	set(19, 1, 1, 0, 0, 0, 0, 0, 0x80)
	p.keeps(t)
	if e := x.Put(p.m, 5, dev(0x1f, 0x010203040500)); e != api.OK {
		t.Errorf("Put: %d", e)
	}
	set(0x0109, 0x1f, 5, 4, 3, 2, 1, 0, 0x80)
	p.keeps(t)
	if e := dev(1, 512).SetRoute(p.m, 2, to(0x01020304, 0x0506)); e != api.OK {
		t.Errorf("SetRoute: %d", e)
	}
	set(528, 4, 3, 2, 1, 6, 5, 0, 0x80)
	p.keeps(t)
	if e := tables.SetTarget(p.m, win(41, 24), 1, 0x0203, true); e != api.OK {
		t.Errorf("SetTarget: %d", e)
	}
	set(49, 3, 2, 0, 0, 0, 0, 0, 0x80)
	p.keeps(t)
	if d, e := x.Get(p.m, 4); d != dev(0xe, 0xeeeeeeeeee00) || e != api.OK {
		t.Errorf("Get: %v, %d", d, e)
	}
	if r, e := dev(1, 512).Route(p.m, 3); r != to(0xeeeeeeee, 0xeeee) || e != api.OK {
		t.Errorf("Route: %v, %d", r, e)
	}
	if k, is, e := tables.Target(p.m, win(41, 24), 2); k != 0xeeee || !is || e != api.OK {
		t.Errorf("Target: %d, %v, %d", k, is, e)
	}
}

func TestRight(t *testing.T) { // P18.1
	p := start(t, noise(64))
	for page := -300; page <= api.MaxMem+300; page++ {
		want := api.ErrArg
		if slices.Contains(pages(), page) {
			want = api.OK
		}
		if e := in(0, 64, page).Right(p.m); e != want {
			t.Errorf("Page %d: %d, want %d", page, e, want)
		}
	}
	for _, page := range ends() {
		p.right(t, in(0, 64, page))
		p.right(t, in(0, 0, page))
		p.right(t, in(64, 0, page))
		p.right(t, in(0, 65, page))
		p.right(t, in(page, page, page))
		p.right(t, in(page, 8, 8))
		p.right(t, in(0, page, 0))
	}
	for _, w := range outside(64) {
		for _, page := range []int{0, 1, 7, 8, -8, 64, math.MinInt, math.MaxInt} {
			if e := (tables.Table{w, page}).Right(p.m); e != api.ErrUnmapped {
				t.Errorf("%v, Page %d: %d", w, page, e)
			}
		}
	}
	p.keeps(t)
}

// wrongTables lists tables that are not valid in a memory of 256 bytes.
func wrongTables() []tables.Table {
	var l []tables.Table
	for _, w := range outside(256) {
		l = append(l, tables.Table{w, 0}, tables.Table{w, 16}, tables.Table{w, 3})
	}
	for _, page := range []int{1, 2, 4, 7, 9, 12, 24, -1, -8, -16, 2 * api.MaxMem, 1 << 62, math.MaxInt, math.MinInt} {
		l = append(l, in(0, 64, page), in(0, 0, page))
	}
	return l
}

func TestWrongTables(t *testing.T) { // P18.1, P18.2, W1, W4
	for _, x := range wrongTables() {
		p := start(t, slices.Repeat([]byte{0xff}, 256))
		want := x.Right(p.m)
		if want == api.OK {
			t.Errorf("%v is right", x)
		}
		p.right(t, x)
		for _, id := range []int{0, 1, -1, 1 << 30, math.MaxInt, math.MinInt} {
			for _, d := range []tables.Device{{}, dev(1, 256), dev(-1, 1)} {
				if e := x.Put(p.m, id, d); e != want {
					t.Errorf("%v: Put(%d, %v): %d, want %d", x, id, d, e, want)
				}
			}
			if d, e := x.Get(p.m, id); d != (tables.Device{}) || e != want {
				t.Errorf("%v: Get(%d): %v, %d, want %d", x, id, d, e, want)
			}
			if e := x.Lead(p.m, id, id); e != want {
				t.Errorf("%v: Lead(%d): %d, want %d", x, id, e, want)
			}
		}
		p.keeps(t)
	}
}

func TestLead(t *testing.T) { // P18.1
	for _, page := range []int{8, 16, 64} {
		for _, size := range []int{0, 7, 8, 15, 16, 24, 31} {
			for _, at := range []int{0, 5} {
				for id := -20; id < 40; id++ {
					p := start(t, noise(128))
					p.lead(t, in(at, size, page), id, 64)
					p.lead(t, in(at, size, page), id, 129-page)
				}
			}
		}
	}
}

func TestLeadToEachAddress(t *testing.T) { // P18.1
	for _, page := range []int{8, 32, 128} {
		p := start(t, noise(128))
		for at := -40; at <= 168; at++ {
			p.lead(t, in(8, 16, page), page/8, at)
		}
		for _, at := range ends() {
			p.lead(t, in(8, 16, page), page/8, at)
		}
	}
}

func TestLeadOfNoPages(t *testing.T) { // P18.1, W1, W3
	p := start(t, noise(256))
	for _, id := range ends() {
		for _, at := range []int{0, 64, -1, math.MaxInt} {
			if e := in(0, 64, 0).Lead(p.m, id, at); e != api.ErrTable {
				t.Errorf("Lead(%d, %d) of a flat table: %d", id, at, e)
			}
		}
		p.lead(t, in(0, 64, 8), id, 64)
		p.lead(t, in(64, 16, 128), id, 128)
		p.lead(t, in(64, 16, 512), id, 0)
	}
	p.keeps(t)
}

func TestGreatestTables(t *testing.T) { // P18.1, P18.2
	p := start(t, make([]byte, api.MaxMem))
	whole, one := in(0, api.MaxMem, 0), in(8, 8, api.MaxMem)
	for _, id := range []int{0, 1, 16383, 16384, 131071, 131072, -1} {
		p.put(t, whole, id, dev(3, 256*max(id, 0)))
		p.get(t, whole, id)
		p.lead(t, one, id, 0) // all of the memory is the page, the entry that leads to it too
		p.put(t, one, id, dev(4, 512))
		p.get(t, one, id)
		p.get(t, in(0, 8, api.MaxMem), id)
	}
	// Windows of pages that tell of more devices than there may be.
	far := in(0, api.MaxMem, 65536)
	for _, id := range []int{0, 8191, 8192, 16384, 131071, 131072, 131073, 262144, 1 << 27, 1<<27 - 1, math.MaxInt} {
		p.lead(t, far, id, 65536)
		p.put(t, far, id, dev(5, 1024))
		p.get(t, far, id)
	}
	near := in(0, api.MaxMem, 128)
	for _, id := range []int{131071, 131072, 262143, 262144, 1 << 20} {
		p.lead(t, near, id, 65536)
		p.put(t, near, id, dev(6, 1024))
		p.get(t, near, id)
	}
}

func TestFlat(t *testing.T) { // P18.2
	for _, size := range []int{0, 1, 7, 8, 9, 23, 24} {
		for _, at := range []int{0, 3, 8, 40} {
			for id := -5; id < 8; id++ {
				p := start(t, noise(64))
				p.get(t, in(at, size, 0), id)
				p.put(t, in(at, size, 0), id, dev(id, 256*id))
				p.get(t, in(at, size, 0), id)
				p.put(t, in(at, size, 0), id, tables.Device{})
				p.get(t, in(at, size, 0), id)
			}
		}
	}
}

func TestInPages(t *testing.T) { // P18.2
	for _, page := range []int{8, 16, 32} {
		b := noise(256)
		for k := range 3 {
			binary.LittleEndian.PutUint64(b[8*k:], 1<<63+uint64(64+33*k))
		}
		p, x := start(t, b), in(0, 28, page)
		p.poke(24, 1<<63+128) // only a part of this entry is in the window
		for id := -2 * page; id < 5*page/8; id++ {
			p.get(t, x, id)
			p.put(t, x, id, dev(max(id, 0)%32, 256*max(id, 0)))
			p.get(t, x, id)
		}
		for id := range 2 * page / 8 {
			p.put(t, x, id, tables.Device{Bits: 99, At: -1})
			p.get(t, x, id)
		}
	}
}

func TestPagesThatAreNotThere(t *testing.T) { // P18.2
	for _, page := range []int{8, 32, 64} {
		for at := 0; at <= 140; at++ {
			p, x := start(t, noise(128)), in(64, 16, page)
			for _, lead := range []uint64{0, 1 << 63, 1<<63 + 1<<32, 1<<63 - 1<<32, 1<<62 + 1<<32, math.MaxUint64 &^ math.MaxUint32} {
				p.poke(72, lead+uint64(at))
				for _, id := range []int{page / 8, page/4 - 1} {
					p.get(t, x, id)
					p.put(t, x, id, dev(1, 256))
					p.get(t, x, id)
				}
			}
		}
	}
	for bit := range 63 { // bit by bit: the address has bits 0 to 31
		p, x := start(t, noise(128)), in(0, 8, 16)
		p.poke(0, 1<<63+64|1<<bit)
		p.get(t, x, 1)
		p.put(t, x, 1, dev(2, 512))
		p.get(t, x, 1)
	}
}

func TestWhatLeadsMakesEntriesExist(t *testing.T) { // P18.1, P18.2
	p, x := start(t, make([]byte, 256)), in(0, 32, 64)
	for id := range 32 {
		if _, e := x.Get(p.m, id); e != api.ErrTable {
			t.Errorf("Get(%d): %d", id, e)
		}
		if e := x.Put(p.m, id, tables.Device{}); e != api.ErrTable {
			t.Errorf("Put(%d): %d", id, e)
		}
	}
	p.lead(t, x, 9, 64)
	p.lead(t, x, 23, 192)
	for id := range 32 {
		d := dev(id, 256*id)
		e, want := x.Put(p.m, id, d), api.OK
		if id < 8 || id > 23 {
			d, want = tables.Device{}, api.ErrTable
		}
		if got, f := x.Get(p.m, id); got != d || e != want || f != want {
			t.Errorf("%d: Put: %d, Get: %v, %d", id, e, got, f)
		}
	}
}

func TestEveryBitOfDevices(t *testing.T) { // P18.2
	p := start(t, make([]byte, 16))
	for _, v := range words() {
		p.poke(4, v)
		p.get(t, in(4, 8, 0), 0)
		p.put(t, in(4, 8, 0), 0, dev(9, 768))
		p.poke(4, v)
		p.put(t, in(4, 8, 0), 0, tables.Device{})
	}
}

// words lists entries that differ in single bits from one that is valid, from one that is not, and from all ones.
func words() []uint64 {
	l := []uint64{0, 1 << 63, math.MaxUint64, math.MaxUint64 >> 1, 0x123456789abcdef0, 0xfedcba9876543210}
	for bit := range 64 {
		l = append(l, 1<<bit, 1<<63|1<<bit, math.MaxUint64&^(1<<bit))
	}
	return l
}

func TestPutOfEachDevice(t *testing.T) { // P18.2
	p := start(t, noise(40))
	for bits := -3; bits <= 40; bits++ {
		for _, at := range []int{0, 256, 1<<48 - 256, 1 << 48, 255, 257, 128, -256, -1} {
			for _, valid := range []bool{true, false} {
				p.put(t, in(8, 24, 0), 2, dev(2, 512))
				p.put(t, in(8, 24, 0), 2, tables.Device{valid, bits, at})
				p.get(t, in(8, 24, 0), 2)
			}
		}
	}
	for _, n := range ends() {
		for _, d := range []tables.Device{dev(n, 0), dev(0, n), dev(31, n-n%256), dev(n, n), dev(n, 256), {false, n, n}} {
			p.put(t, in(8, 24, 0), 1, dev(1, 256))
			p.put(t, in(8, 24, 0), 1, d)
			p.get(t, in(8, 24, 0), 1)
		}
	}
}

func TestOrderOfErrorsOfPut(t *testing.T) { // P18.2, W4
	p, wrong := start(t, make([]byte, 64)), dev(-1, 1)
	for _, c := range []struct {
		x    tables.Table
		id   int
		want api.Errno
	}{
		{in(0, 16, 0), 0, api.ErrArg}, {in(0, 16, 0), 2, api.ErrTable}, {in(0, 16, 0), -1, api.ErrTable}, {in(0, 16, 8), 0, api.ErrTable},
		{in(0, 65, 0), 0, api.ErrUnmapped}, {in(0, 65, 3), 9, api.ErrUnmapped}, {in(0, 16, 3), 9, api.ErrArg}, {in(0, 16, 3), 0, api.ErrArg},
	} {
		if e := c.x.Put(p.m, c.id, wrong); e != c.want {
			t.Errorf("%v: Put(%d): %d, want %d", c.x, c.id, e, c.want)
		}
		p.put(t, c.x, c.id, wrong)
		p.put(t, c.x, c.id, tables.Device{Bits: -1, At: 1})
	}
}

func TestTablesThatOverlap(t *testing.T) { // P18.1, P18.2
	p, x := start(t, make([]byte, 128)), in(0, 32, 32)
	p.lead(t, x, 0, 0) // the page is the table itself
	p.get(t, x, 0)
	p.put(t, x, 1, dev(0, 0))
	p.get(t, x, 4)
	p.put(t, x, 5, tables.Device{})
	p.get(t, x, 4)
	p.put(t, x, 0, tables.Device{})
	p.get(t, x, 0)
	p.lead(t, x, 8, 12)
	p.lead(t, x, 8, 13) // not at a multiple of 8
	p.put(t, x, 9, dev(31, 1<<48-256))
	for id := range 16 {
		p.get(t, x, id)
	}
}

func TestEvents(t *testing.T) { // P18.3
	for bits := range 32 {
		for _, d := range []tables.Device{dev(bits, 0), {Bits: bits}, {false, bits, -1}} {
			if n := d.Events(); n != 2<<bits {
				t.Errorf("%v: Events: %d", d, n)
			}
		}
	}
	for _, n := range ends() {
		want := events(dev(n, 0))
		if got := dev(n, 0).Events(); got != want || n < 0 && got != 2 || n > 31 && got != 1<<32 {
			t.Errorf("Bits %d: Events: %d, want %d", n, got, want)
		}
	}
}

func TestRoutesOfEachEvent(t *testing.T) { // P18.3
	for _, bits := range []int{-1, 0, 1, 2, 31, 32} {
		for _, at := range []int{0, 3, 8, 40, -8, -3, 57, 64, 65} {
			for ev := -3; ev < 12; ev++ {
				for _, valid := range []bool{true, false} {
					p, d := start(t, noise(64)), tables.Device{valid, bits, at}
					p.route(t, d, ev)
					p.setRoute(t, d, ev, to(8192+max(ev, 0), 7))
					p.route(t, d, ev)
					p.setRoute(t, d, ev, api.Route{Number: -1, Coll: -1})
					p.route(t, d, ev)
				}
			}
		}
	}
}

func TestEventsFarAway(t *testing.T) { // P18.3, W1, W5
	p := start(t, noise(256))
	for _, n := range ends() {
		for _, k := range []int{0, 1, 31, n} {
			for _, d := range []tables.Device{dev(k, n), dev(k, 256), dev(31, -8*(n%(1<<33))), dev(n, 0)} {
				for _, ev := range []int{0, 1, n} {
					p.route(t, d, ev)
					p.setRoute(t, d, ev, to(1, 2))
				}
			}
		}
		p.routes(t, dev(31, n))
	}
	last := 1<<32 - 1
	for _, d := range []tables.Device{dev(31, 256-8*(last+1)), dev(99, 3-8*last), dev(31, 0), dev(31, math.MaxInt-8*last), dev(31, math.MaxInt), dev(31, math.MinInt)} {
		for _, ev := range []int{last + 1, last, last - 1, last - 32, 0} {
			p.route(t, d, ev)
			p.setRoute(t, d, ev, to(3, 4))
			p.route(t, d, ev)
		}
	}
	// The last event of a device whose table begins below 0.
	d := dev(31, 256-8*(last+1))
	if e := d.SetRoute(p.m, last, to(5, 6)); e != api.OK {
		t.Errorf("SetRoute: %d", e)
	}
	if r, e := d.Route(p.m, last); r != to(5, 6) || e != api.OK {
		t.Errorf("Route: %v, %d", r, e)
	}
}

func TestEveryBitOfRoutes(t *testing.T) { // P18.3
	p, d := start(t, make([]byte, 32)), dev(1, 1)
	for _, v := range words() {
		p.poke(17, v)
		p.route(t, d, 2)
		p.routes(t, d)
		p.setRoute(t, d, 2, to(4, 5))
		p.poke(17, v)
		p.setRoute(t, d, 2, api.Route{})
	}
}

func TestSetRouteOfEachRoute(t *testing.T) { // P18.3
	p, d := start(t, noise(48)), dev(2, 0)
	for _, n := range append(ends(), 1<<32-1, 1<<32, 65535, 65536, -1) {
		for _, r := range []api.Route{to(n, 0), to(0, n), to(n, n), to(1<<32-1, n), to(n, 65535), {Number: n, Coll: n}, {Number: n}, {Coll: n}} {
			p.setRoute(t, d, 3, to(1, 2))
			p.setRoute(t, d, 3, r)
			p.route(t, d, 3)
		}
	}
}

func TestOrderOfErrorsOfSetRoute(t *testing.T) { // P18.3, W4
	p, wrong := start(t, noise(40)), to(-1, -1)
	for _, c := range []struct {
		d    tables.Device
		ev   int
		want api.Errno
	}{
		{dev(1, 8), 3, api.ErrArg}, {dev(1, 16), 3, api.ErrTable}, {dev(1, 16), 4, api.ErrEvent}, {dev(1, 16), -1, api.ErrEvent},
		{dev(1, -8), 0, api.ErrTable}, {dev(1, -8), 1, api.ErrArg}, {tables.Device{false, 1, 8}, 3, api.ErrEvent}, {tables.Device{false, 1, 99}, 3, api.ErrEvent},
		{tables.Device{}, 0, api.ErrEvent}, {dev(-9, 0), 1, api.ErrArg}, {dev(-9, 0), 2, api.ErrEvent}, {dev(1, math.MaxInt), 9, api.ErrEvent},
	} {
		if e := c.d.SetRoute(p.m, c.ev, wrong); e != c.want {
			t.Errorf("%v: SetRoute(%d): %d, want %d", c.d, c.ev, e, c.want)
		}
		p.setRoute(t, c.d, c.ev, wrong)
		p.route(t, c.d, c.ev)
	}
}

func TestRoutes(t *testing.T) { // P18.3
	p, d := start(t, make([]byte, 100)), dev(2, 30)
	p.routes(t, d)
	for _, ev := range []int{7, 0, 3, 4, 2} {
		p.setRoute(t, d, ev, to(8192+ev, 9-ev))
		p.routes(t, d)
	}
	want := []step{{0, to(8192, 9)}, {2, to(8194, 7)}, {3, to(8195, 6)}, {4, to(8196, 5)}, {7, to(8199, 2)}}
	if l := all(d, p.m); !slices.Equal(l, want) || d.Many(p.m) != 5 {
		t.Errorf("Routes: %v, Many: %d", l, d.Many(p.m))
	}
	if l := all(dev(1, 30), p.m); !slices.Equal(l, want[:3]) {
		t.Errorf("Routes of 4 events: %v", l)
	}
	p.setRoute(t, d, 3, api.Route{})
	p.routes(t, d)
}

func TestRoutesEndWithTheMemory(t *testing.T) { // P18.3
	p := start(t, slices.Repeat([]byte{0xff}, 90))
	for _, bits := range []int{-5, 0, 1, 2, 3, 30, 31, 32, math.MaxInt, math.MinInt} {
		for at := -20; at < 110; at++ {
			p.routes(t, dev(bits, at))
			p.routes(t, tables.Device{Bits: bits, At: at})
		}
	}
	if n := dev(31, 2).Many(p.m); n != 11 {
		t.Errorf("Many: %d", n)
	}
	if n := dev(31, -8).Many(p.m); n != 0 {
		t.Errorf("Many of a table that begins below 0: %d", n)
	}
}

func TestRoutesOfTheGreatestMemory(t *testing.T) { // P18.3
	p := start(t, slices.Repeat([]byte{0xff}, api.MaxMem))
	for _, bits := range []int{12, 13, 14, 31} {
		p.routes(t, dev(bits, 0))
	}
	if n := dev(31, 0).Many(p.m); n != api.MaxMem/8 {
		t.Errorf("Many: %d", n)
	}
}

func TestRoutesLeftEarly(t *testing.T) { // P18.3, W8
	p, d := start(t, make([]byte, 64)), dev(2, 0)
	for _, ev := range []int{1, 2, 5, 7} {
		p.setRoute(t, d, ev, to(ev, ev))
	}
	seq, want := d.Routes(p.m), p.want.routes(d)
	for n := range len(want) + 1 {
		var got []step
		for ev, r := range seq {
			if len(got) == n {
				break
			}
			got = append(got, step{ev, r})
		}
		if !slices.Equal(got, want[:n]) {
			t.Errorf("the first %d: %v", n, got)
		}
	}
	calls := 0
	seq(func(int, api.Route) bool {
		calls++
		return calls < 2
	})
	if calls != 2 {
		t.Errorf("%d calls, want 2", calls)
	}
	p.keeps(t)
}

func TestRoutesAgainAndNested(t *testing.T) { // P18.3, W8
	p, d := start(t, make([]byte, 32)), dev(1, 0)
	p.setRoute(t, d, 1, to(1, 1))
	p.setRoute(t, d, 3, to(3, 3))
	seq := d.Routes(p.m)
	var got []int
	for a := range seq {
		for b, r := range seq {
			got = append(got, a, b, r.Number)
		}
	}
	if !slices.Equal(got, []int{1, 1, 1, 1, 3, 3, 3, 1, 1, 3, 3, 3}) {
		t.Errorf("nested: %v", got)
	}
}

func TestRoutesReadTheMemoryLate(t *testing.T) { // P18.3, W8
	p, d := start(t, make([]byte, 32)), dev(1, 0)
	seq := d.Routes(p.m)
	p.setRoute(t, d, 0, to(10, 0))
	p.setRoute(t, d, 2, to(12, 0))
	var got []step
	for ev, r := range seq {
		got = append(got, step{ev, r})
	}
	if !slices.Equal(got, []step{{0, to(10, 0)}, {2, to(12, 0)}}) {
		t.Errorf("Routes: %v", got)
	}
}

func TestLoopThatForgets(t *testing.T) { // P18.3: each entry is read when its turn comes
	p, d := start(t, make([]byte, 48)), dev(2, 0)
	for ev := range 4 {
		p.setRoute(t, d, ev, to(ev, 0))
	}
	var got []step
	for ev, r := range d.Routes(p.m) {
		got = append(got, step{ev, r})
		p.setRoute(t, d, ev, api.Route{})
		if ev == 0 {
			p.setRoute(t, d, 1, api.Route{})
			p.setRoute(t, d, 3, to(33, 3))
			p.setRoute(t, d, 5, to(55, 5))
		}
	}
	if !slices.Equal(got, []step{{0, to(0, 0)}, {2, to(2, 0)}, {3, to(33, 3)}, {5, to(55, 5)}}) || d.Many(p.m) != 0 {
		t.Errorf("%v, Many: %d", got, d.Many(p.m))
	}
}

func TestCollections(t *testing.T) { // P18.4
	for _, size := range []int{0, 7, 8, 15, 16, 24} {
		for _, at := range []int{0, 3, 40} {
			for coll := -4; coll < 6; coll++ {
				p, w := start(t, noise(64)), win(at, size)
				p.target(t, w, coll)
				for _, is := range []bool{true, false} {
					p.setTarget(t, w, coll, 0x1234, is)
					p.target(t, w, coll)
				}
			}
		}
	}
}

func TestCollectionsOfNoWindow(t *testing.T) { // P18.4, W3
	p := start(t, slices.Repeat([]byte{0xff}, 64))
	for _, w := range outside(64) {
		for _, coll := range []int{0, 1, 7, 131071, -1, 131072} {
			p.target(t, w, coll)
			p.setTarget(t, w, coll, 5, true)
			p.setTarget(t, w, coll, 5, false)
			p.setTarget(t, w, coll, -1, false)
		}
	}
}

func TestCollectionsAtBothEnds(t *testing.T) { // P18.4, W1, W5
	for _, size := range []int{64, api.MaxMem} {
		p := start(t, slices.Repeat([]byte{0xff}, size))
		w := win(0, size)
		for _, n := range append(ends(), size/8-1, size/8, 131071, 131072, 1<<61, 1<<60+1, -1<<61, -1<<60-1) {
			if k, is, e := tables.Target(p.m, w, n); (goal{k, is, e}) != p.want.target(w, n) {
				t.Errorf("Target(%d): %d, %v, %d", n, k, is, e)
			}
			if size == 64 { // each call is held against the whole memory
				p.target(t, win(n, n), n)
				p.setTarget(t, w, n, 5, true)
				p.setTarget(t, w, n, 5, false)
			}
		}
		p.setTarget(t, w, size/8-1, 65535, true)
		p.setTarget(t, w, size/8, 65535, true)
		p.keeps(t)
	}
}

func TestEveryBitOfCollections(t *testing.T) { // P18.4
	p, w := start(t, make([]byte, 32)), win(3, 24)
	for _, v := range words() {
		for _, is := range []bool{true, false} {
			p.poke(11, v)
			p.target(t, w, 1)
			p.setTarget(t, w, 1, 0x8001, is)
			p.target(t, w, 1)
		}
	}
}

func TestTargets(t *testing.T) { // P18.4
	p, w := start(t, noise(32)), win(8, 16)
	for _, n := range append(ends(), 65535, 65536, -1) {
		for _, is := range []bool{true, false} {
			p.setTarget(t, w, 1, 7, true)
			p.setTarget(t, w, 1, n, is)
			p.target(t, w, 1)
		}
	}
}

func TestOrderOfErrorsOfSetTarget(t *testing.T) { // P18.4, W4
	p := start(t, noise(64))
	for _, c := range []struct {
		w            api.Window
		coll, target int
		want         api.Errno
	}{
		{win(0, 64), -1, -1, api.ErrColl}, {win(0, 64), 131072, -1, api.ErrColl}, {win(0, 64), 131072, 0, api.ErrColl}, {win(0, 64), 131071, -1, api.ErrArg},
		{win(0, 64), 131071, 65536, api.ErrArg}, {win(0, 64), 131071, 65535, api.ErrColl}, {win(0, 64), 8, -1, api.ErrArg}, {win(0, 64), 8, 0, api.ErrColl},
		{win(0, 65), 0, 65536, api.ErrArg}, {win(0, 65), 0, 0, api.ErrColl}, {win(-8, 64), 3, 65536, api.ErrArg}, {win(-8, 64), 3, 3, api.ErrColl},
		{win(0, 64), math.MaxInt, -1, api.ErrColl}, {win(0, 64), math.MinInt, -1, api.ErrColl}, {win(0, 65), -1, 65536, api.ErrColl},
	} {
		for _, is := range []bool{true, false} {
			if e := tables.SetTarget(p.m, c.w, c.coll, c.target, is); e != c.want {
				t.Errorf("%v: SetTarget(%d, %d, %v): %d, want %d", c.w, c.coll, c.target, is, e, c.want)
			}
		}
	}
	p.keeps(t)
}

func TestMemoryWithoutBytes(t *testing.T) { // P18.1 to P18.4
	p, none := start(t, nil), win(0, 0)
	for _, page := range []int{0, 8, 9} {
		x := tables.Table{none, page}
		p.right(t, x)
		p.lead(t, x, 0, 0)
		p.get(t, x, 0)
		p.put(t, x, 0, dev(1, 0))
	}
	p.route(t, dev(1, 0), 0)
	p.setRoute(t, dev(1, 0), 0, to(1, 1))
	p.routes(t, dev(1, 0))
	p.target(t, none, 0)
	p.setTarget(t, none, 0, 0, true)
}

func TestTablesInTwoMemories(t *testing.T) { // P18.2 to P18.4, W2
	a, b := start(t, make([]byte, 64)), start(t, make([]byte, 64))
	x, d := in(0, 16, 0), dev(0, 256)
	a.put(t, x, 1, d)
	a.setTarget(t, win(16, 16), 1, 3, true)
	a.setRoute(t, dev(0, 32), 1, to(1, 1))
	b.keeps(t)
	b.get(t, x, 1)
	b.target(t, win(16, 16), 1)
	b.routes(t, dev(0, 32))
	a.get(t, x, 1)
}

// row makes one call after another, on tables that overlap.
func row(t *testing.T, seed, size int) {
	next := roll(seed)
	p := start(t, make([]byte, size))
	number := func(n int) int { return next(n+4) - 2 }
	for range 500 {
		x := in(8*next(4)+next(2), 8*next(6)+next(3), []int{0, 8, 16, 32, 64, 3}[next(6)])
		d := tables.Device{next(8) > 0, number(5), 8*next(size/8) + next(2)}
		r := api.Route{Number: number(1 << next(34)), Coll: number(1 << next(18)), Valid: next(5) > 0}
		switch next(12) {
		case 0, 1:
			p.lead(t, x, number(48), 8*number(size/8))
		case 2:
			p.get(t, x, number(48))
		case 3, 4:
			p.put(t, x, number(48), tables.Device{next(5) > 0, number(33), 256 * number(1<<next(42))})
		case 5:
			p.route(t, d, number(40))
		case 6, 7:
			p.setRoute(t, d, number(40), r)
		case 8:
			p.routes(t, d)
		case 9:
			p.target(t, x.Window, number(8))
		case 10:
			p.setTarget(t, x.Window, number(8), number(1<<next(18)), next(4) > 0)
		case 11:
			p.right(t, x)
			p.poke(next(size-8), uint64(next(2))<<63+uint64(next(1<<30))>>next(30))
		}
	}
}

func TestRowsOfCalls(t *testing.T) { // P18.1 to P18.4
	for seed := range 80 {
		row(t, seed, 64+8*(seed%9))
	}
}
