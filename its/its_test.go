package its_test

import (
	"math"
	"slices"
	"testing"

	"crier/api"
	"crier/its"
	"crier/lpi"
	"crier/mem"
	"crier/queue"
	"crier/tables"
)

// world returns a service that is on, in a memory of 4096 bytes: its tables of 8 devices and of 8 collections, a queue of
// 10 entries, and two processors with 16 interrupts, which are on. Nothing is mapped. From 1024 on, the memory is free.
func world(t *testing.T) *pair {
	t.Helper()
	p := start(t, its.Its{On: true, Queue: over(128, 320), Devices: flat(0, 64), Colls: win(64, 64)}, make([]byte, 4096))
	p.core(t, 16, 480, 560, true)
	p.core(t, 16, 496, 576, true)
	return p
}

// mappedWorld returns a world with the device 3, which has 4 events at 1024; event 2 is 8200 in collection 1, with the target
// 1, and collection 0 has the target 0.
func mappedWorld(t *testing.T) *pair {
	t.Helper()
	p := world(t)
	p.must(t, mapc(0, 0), mapc(1, 1), mapd(3, 1, 1024), mapti(3, 2, 8200, 1))
	return p
}

func TestExample(t *testing.T) { // P19.1, P19.2
	p := world(t)
	p.must(t, mapc(1, 1), mapd(2, 1, 1024), mapti(2, 3, 8200, 1))
	if e := p.message(t, 2, 3); e != api.OK || !p.ts[1].Has(p.m, 8200) {
		t.Errorf("Message: %d", e)
	}
	p.waits(t, 0)
	p.waits(t, 1, 8200)
	p.fails(t, movi(2, 3, 0), api.ErrColl)
	p.must(t, mapc(0, 0), movi(2, 3, 0))
	p.waits(t, 0, 8200)
	p.waits(t, 1)
	p.must(t, at(api.Discard, 2, 3))
	p.waits(t, 0)
	p.waits(t, 1)
	if a, b, c := p.message(t, 2, 3), p.message(t, 2, 4), p.message(t, 3, 0); a != api.ErrEvent || b != api.ErrEvent || c != api.ErrDevice {
		t.Errorf("Message: %d, %d, %d", a, b, c)
	}
}

func TestWrittenOut(t *testing.T) { // P19.2: the bytes of the tables
	p := start(t, its.Its{Devices: flat(3, 40), Colls: win(43, 24), Queue: over(67, 64)}, slices.Repeat([]byte{0x5a}, 1024))
	p.core(t, 16, 200, 220, true)
	p.core(t, 16, 232, 250, false)
	want, _ := p.m.Bytes(win(0, 1024))
	has := func(e api.Errno, at int, b ...byte) {
		t.Helper()
		copy(want[at:], b)
		got, _ := p.m.Bytes(win(0, 1024))
		for k := range want {
			if got[k] != want[k] || e != api.OK {
				t.Fatalf("%d, byte %d: %#x, want %#x", e, k, got[k], want[k])
			}
		}
	}
	has(p.do(t, mapc(2, 1)), 59, 1, 0, 0, 0, 0, 0, 0, 0x80)
	has(p.do(t, mapc(1, 0)), 51, 0, 0, 0, 0, 0, 0, 0, 0x80)
	clear(want[512:576])
	has(p.do(t, mapd(4, 2, 512)), 35, 2, 2, 0, 0, 0, 0, 0, 0x80)
	has(p.do(t, mapti(4, 7, 0x3f21, 2)), 568, 0x21, 0x3f, 0, 0, 2, 0, 0, 0x80)
	has(p.do(t, mapi(4, 1, 1)), 520, 1, 0x20, 0, 0, 1, 0, 0, 0x80)
	has(p.do(t, mapti(4, 0, 8195, 2)), 512, 3, 0x20, 0, 0, 2, 0, 0, 0x80)
	has(p.do(t, at(api.Int, 4, 0)), 250, 0x5a) // 8195 is bit 3 of a table of 0x5a, so that it was pending
	has(p.do(t, at(api.ClearOp, 4, 0)), 250, 0x52)
	has(p.do(t, at(api.Int, 4, 1)), 250, 0x52)
	has(p.do(t, movi(4, 1, 2)), 524, 2)
	has(p.do(t, movall(0, 1)), 250, 0x5a) // 8193, 8195, 8196, 8198, 8201, 8203, 8204 and 8206 were pending in both
	want[250] = 0x58                      // 8193 is forgotten
	has(p.do(t, at(api.Discard, 4, 1)), 520, 0, 0, 0, 0, 0, 0, 0, 0)
	has(p.do(t, api.Command{Op: api.Mapc, Coll: 1}), 51, 0, 0, 0, 0, 0, 0, 0, 0)
	want[250] = 0x50 // 8195 is forgotten
	clear(want[512:520])
	clear(want[568:576])
	has(p.do(t, api.Command{Op: api.Mapd, Device: 4}), 35, 0, 0, 0, 0, 0, 0, 0, 0)
}

// fault is something wrong in a world, and the error that a call returns for it.
type fault struct {
	spoil func(p *pair)
	e     api.Errno
}

// deviceFaults lists what may be wrong on the way to the device 3 of mappedWorld, from the first error on.
func deviceFaults() []fault {
	return []fault{
		{func(p *pair) { p.change(func(s *its.Its) { s.Devices.Window.At = 4096 - 7 }) }, api.ErrUnmapped},
		{func(p *pair) { p.change(func(s *its.Its) { s.Devices.Page = 12 }) }, api.ErrArg},
		{func(p *pair) { p.change(func(s *its.Its) { s.Devices.Window.Size = 31 }) }, api.ErrTable},
		{func(p *pair) { p.poke(24, p.load(24)&^(1<<63)) }, api.ErrDevice},
	}
}

// entryFaults lists what may be wrong on the way to the entry of its event 2.
func entryFaults() []fault {
	return append(deviceFaults(),
		fault{func(p *pair) { p.poke(24, p.load(24)&^31) }, api.ErrEvent},
		fault{func(p *pair) { p.poke(24, p.load(24)|1<<40) }, api.ErrTable},
	)
}

// eventFaults lists what may be wrong on the way to the route of its event 2.
func eventFaults() []fault {
	return append(entryFaults(), fault{func(p *pair) { p.poke(1040, p.load(1040)&^(1<<63)) }, api.ErrEvent})
}

// collFaults lists what may be wrong with the collection of this route.
func collFaults() []fault {
	return []fault{
		{func(p *pair) { p.poke(1040, p.load(1040)|8<<32) }, api.ErrColl},
		{func(p *pair) { p.poke(72, p.load(72)&^(1<<63)) }, api.ErrColl},
	}
}

// placeFaults lists what may be wrong on the way to the interrupt of this route.
func placeFaults() []fault {
	return slices.Concat(eventFaults(), collFaults(), []fault{
		{func(p *pair) { p.poke(72, p.load(72)|2) }, api.ErrCore},
		{func(p *pair) { p.poke(1040, p.load(1040)|1<<31) }, api.ErrLpi},
	})
}

// sideFaults lists what may be wrong with the collection 0, which a command tells.
func sideFaults() []fault {
	return []fault{
		{func(p *pair) { p.change(func(s *its.Its) { s.Colls.Size = 7 }) }, api.ErrColl},
		{func(p *pair) { p.poke(64, p.load(64)&^(1<<63)) }, api.ErrColl},
		{func(p *pair) { p.poke(64, p.load(64)|2) }, api.ErrCore},
	}
}

// order makes a call in mappedWorlds in which something is wrong: one thing, all, or this one and the ones after it.
func order(t *testing.T, faults []fault, call func(t *testing.T, p *pair) api.Errno) {
	t.Helper()
	if e := call(t, mappedWorld(t)); e != api.OK {
		t.Errorf("with nothing wrong: %d", e)
	}
	for k, f := range faults {
		p := mappedWorld(t)
		f.spoil(p)
		if e := call(t, p); e != f.e {
			t.Errorf("fault %d: %d, want %d", k, e, f.e)
		}
		p = mappedWorld(t)
		for _, g := range slices.Backward(faults[k:]) {
			g.spoil(p)
		}
		if e := call(t, p); e != f.e {
			t.Errorf("fault %d and those after it: %d, want %d", k, e, f.e)
		}
	}
}

// doing returns a call that executes a command.
func doing(c api.Command) func(t *testing.T, p *pair) api.Errno {
	return func(t *testing.T, p *pair) api.Errno {
		t.Helper()
		return p.do(t, c)
	}
}

// off makes a service be off.
func off() fault {
	return fault{func(p *pair) { p.change(func(s *its.Its) { s.On = false }) }, api.ErrOff}
}

func TestErrorsOfRoute(t *testing.T) { // P19.1, W3, W4
	order(t, slices.Concat([]fault{off()}, eventFaults(), collFaults()), func(t *testing.T, p *pair) api.Errno {
		t.Helper()
		x := p.route(t, 3, 2)
		if x.e != api.OK && x != (way{e: x.e}) {
			t.Errorf("Route: %v", x)
		}
		return x.e
	})
}

func TestErrorsOfMessage(t *testing.T) { // P19.1, W4
	order(t, slices.Concat([]fault{off()}, placeFaults()), func(t *testing.T, p *pair) api.Errno {
		t.Helper()
		return p.message(t, 3, 2)
	})
}

func TestErrorsOfEvents(t *testing.T) { // P19.2, W4
	order(t, eventFaults(), doing(at(api.Discard, 3, 2)))
	for _, op := range []api.Op{api.Int, api.ClearOp, api.Inv} {
		order(t, placeFaults(), doing(at(op, 3, 2)))
	}
	order(t, slices.Concat(eventFaults(), sideFaults()), doing(movi(3, 2, 0)))
	order(t, sideFaults(), doing(invall(0)))
}

func TestErrorsOfMappedEvents(t *testing.T) { // P19.2, W4
	lost := fault{func(p *pair) { p.change(func(s *its.Its) { s.Colls.Size = 7 }) }, api.ErrColl}
	order(t, append(entryFaults(), lost), doing(mapti(3, 2, 8201, 0)))
	order(t, append(entryFaults(), lost), doing(mapi(3, 2, 0)))
	// A wrong number comes after the faults on the way to the entry, and before that of the collection.
	for _, number := range []int{0, 1, 8191, 16384, 1 << 31, 1<<32 - 1} {
		c := mapti(3, 2, number, 0)
		for k, f := range entryFaults() {
			p := mappedWorld(t)
			f.spoil(p)
			if e := p.do(t, c); e != f.e {
				t.Errorf("fault %d: %d, want %d", k, e, f.e)
			}
		}
		p := mappedWorld(t)
		p.fails(t, c, api.ErrLpi)
		lost.spoil(p)
		p.fails(t, c, api.ErrLpi)
	}
}

func TestErrorsOfOthers(t *testing.T) { // P19.2, W4
	none := fault{func(p *pair) { p.ts, p.want.ts = p.ts[:1], p.want.ts[:1] }, api.ErrCore}
	far := fault{func(p *pair) { p.change(func(s *its.Its) { s.Colls.At = 4096 - 63 }) }, api.ErrColl}
	small := fault{func(p *pair) { p.change(func(s *its.Its) { s.Colls.Size = 55 }) }, api.ErrColl}
	order(t, []fault{none, far, small}, doing(mapc(6, 1)))
	order(t, []fault{far, small}, doing(mapc(6, 0)))
	order(t, []fault{far, small}, doing(api.Command{Op: api.Mapc, Coll: 6, Target: 65535})) // no target is none, whichever it tells
	order(t, []fault{none}, doing(syncs(1)))
	order(t, []fault{none}, doing(movall(0, 1)))
	order(t, []fault{none}, doing(movall(1, 0)))
	gone := fault{func(p *pair) { p.ts, p.want.ts = nil, nil }, api.ErrCore}
	for _, c := range []api.Command{syncs(0), movall(0, 0), mapc(0, 0)} {
		order(t, []fault{gone}, doing(c))
	}
}

func TestErrorsOfMapd(t *testing.T) { // P19.2, W4
	meets := fault{func(p *pair) { p.change(func(s *its.Its) { s.Colls = win(2048, 1) }) }, api.ErrTable}
	order(t, append(deviceFaults()[:3], meets), doing(mapd(3, 1, 2048)))
	order(t, deviceFaults()[:3], doing(mapd(3, 1, 1024)))
	order(t, deviceFaults()[:3], doing(api.Command{Op: api.Mapd, Device: 3, Bits: 31, Addr: 1<<48 - 256})) // no table is asked for
	for k, f := range deviceFaults()[:2] {
		p := mappedWorld(t)
		f.spoil(p)
		if e := p.do(t, mapd(3, 1, 4096)); e != f.e {
			t.Errorf("fault %d: %d, want %d", k, e, f.e)
		}
	}
}

func TestRoute(t *testing.T) { // P19.1
	p := mappedWorld(t)
	if x := p.route(t, 3, 2); x != (way{api.Route{Number: 8200, Coll: 1, Valid: true}, 1, api.OK}) {
		t.Errorf("Route: %v", x)
	}
	p.poke(72, 1<<63+65535) // no processor has this number: Route does not ask for it
	p.poke(1040, 1<<63+1<<32+(1<<32-1))
	if x := p.route(t, 3, 2); x != (way{api.Route{Number: 1<<32 - 1, Coll: 1, Valid: true}, 65535, api.OK}) {
		t.Errorf("Route: %v", x)
	}
	for dev := -2; dev < 10; dev++ {
		for ev := -2; ev < 10; ev++ {
			p.route(t, dev, ev)
			p.message(t, dev, ev)
		}
	}
	p.change(func(s *its.Its) { s.Stalled = true }) // of the queue alone
	if x := p.route(t, 3, 2); x.e != api.OK {
		t.Errorf("Route: %v", x)
	}
}

func TestEndsOfInt(t *testing.T) { // P19.1, P19.2, W1: numbers that no command can have are those of no device and no event
	p := mappedWorld(t)
	for _, n := range ends() {
		if n >= 0 && n < 8 {
			continue
		}
		for _, ev := range []int{2, n, -1, math.MaxInt, math.MinInt} {
			if e := p.message(t, n, ev); e != api.ErrTable {
				t.Errorf("Message(%d, %d): %d", n, ev, e)
			}
			if x := p.route(t, n, ev); x != (way{e: api.ErrTable}) {
				t.Errorf("Route(%d, %d): %v", n, ev, x)
			}
		}
		if e := p.message(t, 3, n); e != api.ErrEvent {
			t.Errorf("Message(3, %d): %d", n, e)
		}
		if x := p.route(t, 3, n); x != (way{e: api.ErrEvent}) {
			t.Errorf("Route(3, %d): %v", n, x)
		}
		p.do(t, mapc(n, 0))
		p.do(t, mapc(0, n))
		p.do(t, mapd(n, 0, 2048))
		p.do(t, mapd(4, n, 2048))
		p.do(t, mapd(4, 0, n))
		p.do(t, mapd(4, 0, 256*n))
		p.do(t, mapti(n, 2, 8192, 0))
		p.do(t, mapti(3, n, 8192, 0))
		p.do(t, mapti(3, 2, n, 0))
		p.do(t, mapti(3, 2, 8192, n))
		p.do(t, movi(3, 2, n))
		p.do(t, movall(n, 0))
		p.do(t, movall(0, n))
		p.do(t, invall(n))
		p.do(t, syncs(n))
		p.do(t, api.Command{Op: api.Op(n)})
		if n < 0 {
			p.fails(t, syncs(n), api.ErrCommand)
			p.fails(t, mapi(3, n, 0), api.ErrCommand)
		}
	}
}

func TestCommandsThatAreNotValid(t *testing.T) { // P19.2: whatever else is wrong
	p := mappedWorld(t)
	p.set(t, 1, 8200, true)
	q := start(t, its.Its{Devices: flat(0, 8), Colls: win(-1, 8)}, nil)
	for _, c := range []api.Command{
		{}, {Op: 2}, {Op: 6}, {Op: 7}, {Op: 16}, {Op: -1}, {Op: 256 + api.Sync}, {Op: math.MaxInt}, {Op: math.MinInt},
		{Op: api.Sync, Bits: 1}, {Op: api.Sync, Coll: 1}, {Op: api.Sync, Valid: true}, {Op: api.Sync, Target: 65536},
		{Op: api.Int, Device: 3, Event: 2, Valid: true}, {Op: api.Int, Device: 3, Event: 2, Coll: 1}, {Op: api.Int, Device: 3, Event: 1<<32 + 2},
		{Op: api.Discard, Device: 3, Event: 2, Number: 8200}, {Op: api.Discard, Device: 3 - 1<<32, Event: 2},
		{Op: api.Mapti, Device: 3, Event: 2, Number: 8200 + 1<<32}, {Op: api.Mapti, Device: 3, Event: 2, Number: 8200, Valid: true},
		{Op: api.Mapi, Device: 3, Event: 2, Number: 8194}, {Op: api.Mapd, Device: 3, Bits: 32, Addr: 2048, Valid: true},
		{Op: api.Mapd, Device: 3, Addr: 2049, Valid: true}, {Op: api.Mapd, Device: 3, Addr: 1}, {Op: api.Mapd, Device: 3, Event: 2},
		{Op: api.Mapc, Coll: 65536}, {Op: api.Mapc, Target: -1}, {Op: api.Movall, Number: 65536}, {Op: api.InvallOp, Target: 1},
	} {
		p.fails(t, c, api.ErrCommand)
		q.fails(t, c, api.ErrCommand)
	}
	p.waits(t, 1, 8200)
}

func TestDoDoesNotAskForMore(t *testing.T) { // P19.2: it executes commands while the service is off or stalled
	p := world(t)
	p.change(func(s *its.Its) { *s = its.Its{Stalled: true, Devices: s.Devices, Colls: s.Colls} })
	p.must(t, mapc(0, 0), mapc(1, 1), mapd(3, 1, 1024), mapti(3, 2, 8200, 1), at(api.Int, 3, 2))
	p.waits(t, 1, 8200)
	p.must(t, movi(3, 2, 0), movall(0, 1), syncs(1), invall(0), at(api.Inv, 3, 2), mapi(3, 0, 1), at(api.ClearOp, 3, 0), at(api.Discard, 3, 0))
	p.waits(t, 1, 8200)
}

func TestMessage(t *testing.T) { // P19.1: messages to processors that are on and off, of each number
	p := world(t)
	p.core(t, 9, 600, 640, false)
	p.must(t, mapd(0, 4, 1024))
	for k := range 3 {
		p.must(t, mapc(k, k))
		for n := 8190; n < 8192+18; n++ {
			p.poke(1024, 1<<63+uint64(k)<<32+uint64(n))
			want := api.OK
			if n < 8192 || n >= 8192+p.ts[k].Many() {
				want = api.ErrLpi
			}
			for range 2 {
				if e := p.message(t, 0, 0); e != want || want == api.OK && !p.ts[k].Has(p.m, n) {
					t.Fatalf("%d at %d: %d, want %d", n, k, e, want)
				}
			}
			p.do(t, at(api.ClearOp, 0, 0))
			p.do(t, at(api.Int, 0, 0))
			p.do(t, at(api.Inv, 0, 0))
		}
	}
	p.waits(t, 2, 8192, 8193, 8194, 8195, 8196, 8197, 8198, 8199, 8200)
}

func TestMessagesByEachTarget(t *testing.T) { // P19.1, P19.2: of as many processors as there are
	p := mappedWorld(t)
	for target := range 6 {
		p.poke(72, 1<<63+uint64(target))
		for many := range 3 {
			q := p.again()
			q.ts, q.want.ts = q.ts[:many], q.want.ts[:many]
			want := api.ErrCore
			if target < many {
				want = api.OK
			}
			if e := q.message(t, 3, 2); e != want {
				t.Errorf("Message to %d of %d: %d, want %d", target, many, e, want)
			}
			q.fails(t, at(api.Int, 3, 2), want)
			q.fails(t, at(api.ClearOp, 3, 2), want)
			q.fails(t, at(api.Inv, 3, 2), want)
			q.fails(t, invall(1), want)
			q.fails(t, movi(3, 2, 1), want)
			q.fails(t, syncs(target), want)
			q.fails(t, movall(target, 0), first(want, min(want, q.want.core(0))))
			q.fails(t, mapc(5, target), want)
			if x := q.route(t, 3, 2); x.target != target {
				t.Errorf("Route: %v", x)
			}
		}
	}
}

func TestOneProcessorTwice(t *testing.T) { // P19.2, W1: what is moved to itself stays
	p := mappedWorld(t)
	p.ts, p.want.ts = append(p.ts, p.ts[1]), append(p.want.ts, p.want.ts[1])
	p.must(t, mapc(2, 2), at(api.Int, 3, 2), movi(3, 2, 2), movall(1, 2), movall(2, 2), movall(2, 1))
	p.waits(t, 1, 8200)
	p.waits(t, 2, 8200)
	p.must(t, at(api.ClearOp, 3, 2))
	p.waits(t, 1)
}

func TestMapc(t *testing.T) { // P19.2
	p := world(t)
	for _, size := range []int{0, 7, 8, 9, 15, 16, 63, 64} {
		for _, x := range []int{64, 65, 4096 - size, 4097 - size} {
			p.change(func(s *its.Its) { s.Colls = win(x, size) })
			for coll := range 10 {
				for target := range 4 {
					p.do(t, mapc(coll, target))
					p.do(t, api.Command{Op: api.Mapc, Coll: coll, Target: target})
				}
			}
		}
	}
	p = mappedWorld(t)
	p.must(t, at(api.Int, 3, 2), mapc(1, 0)) // what is pending stays where it is
	p.waits(t, 0)
	p.waits(t, 1, 8200)
	if e := p.message(t, 3, 2); e != api.OK {
		t.Errorf("Message: %d", e)
	}
	p.waits(t, 0, 8200)
	p.must(t, api.Command{Op: api.Mapc, Coll: 1, Target: 1})
	if e := p.message(t, 3, 2); e != api.ErrColl {
		t.Errorf("Message: %d", e)
	}
	p.waits(t, 0, 8200)
}

func TestMapti(t *testing.T) { // P19.2
	p := mappedWorld(t)
	p.must(t, at(api.Int, 3, 2))
	p.set(t, 0, 8200, true)
	p.set(t, 1, 8205, true)
	p.put(480, noise(32)...)
	p.must(t, mapti(3, 2, 8205, 0)) // 8200 is forgotten in 1, and the configuration of 8205 is read in 0
	p.waits(t, 0, 8200)
	p.waits(t, 1, 8205)
	for k := range 2 {
		for id := 8192; id < 8208; id++ {
			in, n := p.ts[k].Setup(id)
			if k == 0 && id == 8205 && !in && n == 8 || !in && n == 0 {
				continue
			}
			t.Errorf("Setup(%d) of %d: %v, %d", id, k, in, n)
		}
	}
	if x := p.route(t, 3, 2); x.r != (api.Route{Number: 8205, Valid: true}) {
		t.Errorf("Route: %v", x)
	}
	p.must(t, mapti(3, 2, 8205, 0)) // again: nothing that is pending in another place is forgotten
	p.waits(t, 1, 8205)
	p.set(t, 0, 8205, true)
	p.must(t, mapti(3, 2, 8205, 0))
	p.waits(t, 0, 8200)
}

func TestMaptiOfNewEvents(t *testing.T) { // P19.2: nothing is forgotten where there was no route
	p := mappedWorld(t)
	p.set(t, 0, 8192, true)
	p.set(t, 1, 8192, true)
	p.poke(1024, 8192) // what is left of a route to 8192 in 0, which is not valid
	p.must(t, mapti(3, 0, 8200, 1))
	p.waits(t, 0, 8192)
	p.waits(t, 1, 8192)
	p.must(t, mapi(3, 1, 0))
	if x := p.route(t, 3, 1); x != (way{api.Route{Number: 8193, Valid: true}, 0, api.OK}) {
		t.Errorf("Route: %v", x)
	}
}

func TestMaptiOfEachNumber(t *testing.T) { // P19.2: also of those that the side does not have, or where there is none
	p := mappedWorld(t)
	p.poke(80, 1<<63+7)
	for _, number := range []int{0, 8190, 8191, 8192, 8193, 8207, 8208, 8703, 8704, 16382, 16383, 16384, 16385, 65535, 1<<32 - 1} {
		for coll := range 9 { // 2 is that of no processor, 3 and on have no target, and 8 does not exist
			want := api.OK
			if coll == 8 {
				want = api.ErrColl
			}
			if number < 8192 || number > 16383 {
				want = api.ErrLpi
			}
			p.fails(t, mapti(3, 1, number, coll), want)
			p.fails(t, mapti(3, 1, number, coll), want)
		}
	}
}

func TestMapi(t *testing.T) { // P19.2: the number follows from the event
	p := world(t)
	p.must(t, mapc(0, 0), mapd(1, 7, 2048))
	for ev := range 260 {
		want := api.OK
		if ev > 255 {
			want = api.ErrEvent
		}
		p.fails(t, mapi(1, ev, 0), want)
		if x := p.route(t, 1, ev); want == api.OK && x.r.Number != 8192+ev {
			t.Errorf("Route: %v", x)
		}
	}
	p = start(t, its.Its{Devices: flat(0, 8), Colls: win(8, 8)}, make([]byte, api.MaxMem))
	p.must(t, mapd(0, 12, 65536))
	for _, ev := range []int{0, 8190, 8191} {
		p.must(t, mapi(0, ev, 0))
	}
	p.fails(t, mapi(0, 8192, 0), api.ErrEvent)
	p.poke(0, 1<<63+13) // as many events as there may be, whose table is that of the device too
	p.fails(t, mapi(0, 8191, 0), api.OK)
	p.fails(t, mapi(0, 8192, 0), api.ErrLpi)
	p.fails(t, mapi(0, 8192, 9), api.ErrLpi)
	p.fails(t, mapi(0, 16383, 0), api.ErrLpi)
	p.fails(t, mapi(0, 1<<32-1, 0), api.ErrEvent)
}

func TestMovi(t *testing.T) { // P19.2
	p := mappedWorld(t)
	p.put(480, noise(32)...)
	p.must(t, movi(3, 2, 0)) // not pending
	p.waits(t, 0)
	p.waits(t, 1)
	for k, want := range []int{8, 0} {
		for id := 8192; id < 8208; id++ {
			in, n := p.ts[k].Setup(id)
			if in != (k == 0 && id == 8200) || n != 0 && (id != 8200 || n != want) {
				t.Errorf("Setup(%d) of %d: %v, %d", id, k, in, n)
			}
		}
	}
	if x := p.route(t, 3, 2); x != (way{api.Route{Number: 8200, Valid: true}, 0, api.OK}) {
		t.Errorf("Route: %v", x)
	}
	p.set(t, 0, 8200, true)
	p.set(t, 0, 8201, true)
	p.must(t, movi(3, 2, 0)) // to where it is
	p.waits(t, 0, 8200, 8201)
	p.must(t, movi(3, 2, 1))
	p.waits(t, 0, 8201)
	p.waits(t, 1, 8200)
	p.set(t, 0, 8200, true)
	p.must(t, movi(3, 2, 0)) // to where it is pending already
	p.waits(t, 0, 8200, 8201)
	p.waits(t, 1)
}

func TestMoviFromNowhere(t *testing.T) { // P19.2: the event's own collection need have no side
	for _, x := range []struct {
		coll, target uint64
	}{{1, 0}, {1, 1<<63 + 2}, {1, 1<<63 + 65535}, {8, 1<<63 + 1}, {65535, 1<<63 + 1}} {
		p := mappedWorld(t)
		p.set(t, 1, 8200, true)
		p.put(488, 0xf9)
		p.poke(72, x.target)
		p.poke(1040, 1<<63+x.coll<<32+8200)
		p.must(t, movi(3, 2, 0))
		p.waits(t, 0)
		p.waits(t, 1, 8200)
		if in, n := p.ts[0].Setup(8200); !in || n != 248 {
			t.Errorf("%v: Setup: %v, %d", x, in, n)
		}
		if x := p.route(t, 3, 2); x != (way{api.Route{Number: 8200, Valid: true}, 0, api.OK}) {
			t.Errorf("Route: %v", x)
		}
	}
}

func TestMoviOfOtherNumbers(t *testing.T) { // P19.2: such as one of the processors does not have
	p := mappedWorld(t)
	p.core(t, 24, 600, 640, true)
	p.core(t, 4, 632, 648, false)
	p.must(t, mapc(2, 2), mapc(3, 3))
	for _, number := range []int{0, 8191, 8192, 8195, 8196, 8200, 8207, 8208, 8215, 8216, 16384, 1<<32 - 1} {
		for from := range 4 {
			for to := range 4 {
				p.poke(1040, 1<<63+uint64(from)<<32+uint64(number))
				p.do(t, at(api.Int, 3, 2))
				p.must(t, movi(3, 2, to))
				if x := p.route(t, 3, 2); x.r != (api.Route{Number: number, Coll: to, Valid: true}) || x.target != to {
					t.Errorf("Route: %v", x)
				}
				p.do(t, movall(from, to))
				p.do(t, at(api.ClearOp, 3, 2))
			}
		}
	}
}

func TestDiscard(t *testing.T) { // P19.2
	for _, x := range []struct {
		coll, number uint64
		target       uint64
		left         []int // what is pending in 1
	}{
		{1, 8200, 1<<63 + 1, []int{8201}},
		{1, 8201, 1<<63 + 1, []int{8200}},
		{1, 8202, 1<<63 + 1, []int{8200, 8201}},
		{1, 0, 1<<63 + 1, []int{8200, 8201}},
		{1, 8208, 1<<63 + 1, []int{8200, 8201}},
		{1, 1<<32 - 1, 1<<63 + 1, []int{8200, 8201}},
		{0, 8200, 1<<63 + 1, []int{8200, 8201}},
		{1, 8200, 1, []int{8200, 8201}},
		{1, 8200, 1<<63 + 2, []int{8200, 8201}},
		{8, 8200, 1<<63 + 1, []int{8200, 8201}},
	} {
		p := mappedWorld(t)
		p.set(t, 1, 8200, true)
		p.set(t, 1, 8201, true)
		p.poke(72, x.target)
		p.poke(1040, 1<<63+x.coll<<32+x.number)
		p.must(t, at(api.Discard, 3, 2))
		p.waits(t, 1, x.left...)
		if v := p.load(1040); v != 0 {
			t.Errorf("%v: the entry is %#x", x, v)
		}
		p.fails(t, at(api.Discard, 3, 2), api.ErrEvent)
	}
}

func TestOrderOfDiscard(t *testing.T) { // P19.2: no longer pending, then without a route
	p := world(t)
	p.change(func(s *its.Its) { s.Colls = win(1020, 16) })
	p.poke(16, 1<<63+1024+1)
	p.poke(1024, 1<<63+1<<32+8200) // event 0, whose collection 1 has the 8 bytes from 1028 on, and so the target 1
	p.poke(1032, 1<<31)
	p.set(t, 0, 8200, true)
	p.set(t, 1, 8200, true)
	p.must(t, at(api.Discard, 2, 0))
	p.waits(t, 0, 8200)
	p.waits(t, 1)
}

func TestInv(t *testing.T) { // P19.2: of one interrupt, or of all
	p := mappedWorld(t)
	p.put(480, slices.Repeat([]byte{0xa1}, 32)...)
	reads := func(k int, ids ...int) {
		t.Helper()
		for id := 8192; id < 8208; id++ {
			if in, _ := p.ts[k].Setup(id); in != slices.Contains(ids, id) {
				t.Errorf("Setup(%d) of %d: %v", id, k, in)
			}
		}
	}
	p.must(t, at(api.Inv, 3, 2))
	reads(0)
	reads(1, 8200)
	p.must(t, syncs(0), syncs(1))
	reads(1, 8200)
	p.must(t, invall(0))
	reads(0, 8192, 8193, 8194, 8195, 8196, 8197, 8198, 8199, 8200, 8201, 8202, 8203, 8204, 8205, 8206, 8207)
	reads(1, 8200)
	p.put(480, make([]byte, 32)...)
	p.must(t, invall(1))
	reads(1)
	p.must(t, at(api.Inv, 3, 2), at(api.Int, 3, 2), at(api.ClearOp, 3, 2))
	reads(0, 8192, 8193, 8194, 8195, 8196, 8197, 8198, 8199, 8200, 8201, 8202, 8203, 8204, 8205, 8206, 8207)
}

func TestMovall(t *testing.T) { // P19.2
	p := world(t)
	p.core(t, 4, 600, 640, true)
	for _, id := range []int{8192, 8195, 8196, 8207} {
		p.set(t, 0, id, true)
	}
	p.must(t, movall(0, 1))
	p.waits(t, 0)
	p.waits(t, 1, 8192, 8195, 8196, 8207)
	p.must(t, movall(1, 2))
	p.waits(t, 1, 8196, 8207)
	p.waits(t, 2, 8192, 8195)
	for _, x := range [][2]int{{3, 0}, {0, 3}, {3, 3}, {65535, 0}, {0, 65535}} {
		p.fails(t, movall(x[0], x[1]), api.ErrCore)
	}
	p.must(t, movall(2, 2), movall(2, 0))
	p.waits(t, 0, 8192, 8195)
}

func TestMapd(t *testing.T) { // P19.2
	p := mappedWorld(t)
	p.must(t, mapti(3, 0, 8193, 0), mapti(3, 3, 8207, 1))
	for k := range 2 {
		for _, id := range []int{8192, 8193, 8200, 8207} {
			p.set(t, k, id, true)
		}
	}
	p.put(2048, noise(200)...)
	p.must(t, mapd(3, 3, 2048))
	p.waits(t, 0, 8192, 8200, 8207)
	p.waits(t, 1, 8192, 8193)
	for k := range 16 {
		if v := p.load(2048 + 8*k); v != 0 {
			t.Errorf("event %d: %#x", k, v)
		}
	}
	for k := range 4 {
		if v := p.load(1024 + 8*k); v != 0 {
			t.Errorf("the old event %d: %#x", k, v)
		}
	}
	p.must(t, mapti(3, 15, 8192, 0), api.Command{Op: api.Mapd, Device: 3})
	p.waits(t, 0, 8200, 8207)
	if v := p.load(24); v != 0 {
		t.Errorf("the device: %#x", v)
	}
	p.must(t, api.Command{Op: api.Mapd, Device: 3, Bits: 31, Addr: 1<<48 - 256}) // nothing to map: it says nothing
	if v := p.load(24); v != 0 {
		t.Errorf("the device: %#x", v)
	}
}

func TestMapdOfNewDevices(t *testing.T) { // P19.2: nothing is forgotten of a device that was not valid
	p := mappedWorld(t)
	p.set(t, 1, 8200, true)
	p.poke(24, 1024+1)
	p.must(t, mapd(3, 1, 2048))
	p.waits(t, 1, 8200)
	if v := p.load(1040); v != 1<<63+1<<32+8200 {
		t.Errorf("event 2: %#x", v)
	}
	p = mappedWorld(t)
	p.set(t, 1, 8200, true)
	p.must(t, mapd(4, 1, 1024)) // another device with the same table: the route is gone, without being forgotten
	p.waits(t, 1, 8200)
	if e := p.message(t, 3, 2); e != api.ErrEvent {
		t.Errorf("Message: %d", e)
	}
}

func TestMapdAgain(t *testing.T) { // P19.2: to the same table, or one that overlaps
	for _, addr := range []int{768, 1024, 1280} {
		for bits := range 8 {
			p := world(t)
			p.must(t, mapc(0, 0), mapd(2, 5, 1024))
			for ev := range 64 {
				p.must(t, mapti(2, ev, 8192+ev%16, 0))
			}
			for _, id := range []int{8192, 8196, 8207} {
				p.set(t, 0, id, true)
			}
			p.must(t, mapd(2, bits, addr))
			p.waits(t, 0)
			p.must(t, mapi(2, 1, 0))
		}
	}
}

func TestMapdOfTablesThatEnd(t *testing.T) { // P19.2: the memory ends within the old table
	p := world(t)
	p.must(t, mapc(0, 0))
	p.poke(16, 1<<63+3840+31)
	for ev := range 32 {
		p.must(t, mapi(2, ev, 0))
	}
	for _, id := range []int{8192, 8193, 8207} {
		p.set(t, 0, id, true)
	}
	p.fails(t, mapi(2, 32, 0), api.ErrTable)
	p.must(t, api.Command{Op: api.Mapd, Device: 2})
	p.waits(t, 0)
	p.poke(16, 1<<63+4096+31)
	p.must(t, mapd(2, 4, 3840))
	p.poke(16, 1<<63+1<<47+31)
	p.must(t, mapd(2, 4, 3840))
	p.fails(t, mapd(2, 5, 3840), api.ErrTable)
}

func TestWindowsOfMapd(t *testing.T) { // P19.2: what a table of events may overlap
	for _, w := range []api.Window{
		win(1023, 1), win(1023, 2), win(1024, 1), win(1055, 1), win(1056, 1), win(1056, 100), win(1000, 24), win(1000, 25), win(1000, 200), win(1030, 0),
		win(1024, 32), win(1040, 4), win(1055, 1<<40), win(1056, 1<<40), win(0, 1<<40), win(1040, 1<<40+1), win(1040, math.MaxInt), win(1040, -1),
		win(1040, -8), win(-1, 2000), win(math.MinInt, math.MaxInt), win(math.MaxInt, 8), win(1<<40, 1<<40), win(1<<40, math.MinInt), win(1024, 3072),
	} {
		want := api.OK
		if a, b := w.At, w.Size; a >= 0 && a < 1056 && b > 0 && b <= 1<<40 && a+b > 1024 {
			want = api.ErrTable
		}
		p := world(t)
		p.change(func(s *its.Its) { s.Colls = w })
		p.fails(t, mapd(2, 1, 1024), want)
		p.do(t, mapd(2, 1, 512))
		p = world(t)
		p.change(func(s *its.Its) { s.Queue = queue.Queue{Window: w, Read: 7, Write: -3} })
		p.fails(t, mapd(2, 1, 1024), want)
		p.must(t, api.Command{Op: api.Mapd, Device: 2, Bits: 1, Addr: 1024})
		p = world(t)
		p.change(func(s *its.Its) { s.Devices.Window = w })
		p.do(t, mapd(0, 1, 1024))
		p.do(t, mapd(0, 1, 512))
	}
}

func TestMapdBesideTheTable(t *testing.T) { // P19.2: the Window of Devices, with each size of the table of events
	for bits := range 10 {
		size := 16 << bits
		for _, at := range []int{1024 - 9, 1024 - 8, 1024 - 7, 1024, 1024 + size - 1, 1024 + size, 1024 + size + 1} {
			p := start(t, its.Its{Devices: flat(at, 8), Colls: win(0, 64)}, noise(10240))
			want := api.ErrTable
			if at <= 1024-8 || at >= 1024+size {
				want = api.OK
			}
			p.fails(t, mapd(0, bits, 1024), want)
			p.change(func(s *its.Its) { s.Devices.Window = win(at, 7) })
			p.fails(t, mapd(0, bits, 1024), api.ErrTable)
		}
	}
}

func TestTablesOutsideOfTheMemory(t *testing.T) { // P19.2
	for _, size := range []int{2048, 2049, 2063, 2064, 2065, 3000} {
		p := start(t, its.Its{Devices: flat(0, 64), Colls: win(64, 64)}, noise(size))
		for bits := range 32 {
			for _, addr := range []int{256, 1024, 1536, 1792, 2048, 2304, 4096, 1 << 17, 1 << 32, 1 << 40, 1<<40 + 256, 1<<48 - 256} {
				want := api.OK
				if addr+16<<bits > size {
					want = api.ErrTable
				}
				p.fails(t, mapd(7, bits, addr), want)
				p.must(t, api.Command{Op: api.Mapd, Device: 7, Bits: bits, Addr: addr})
			}
		}
	}
}

func TestGreatestTable(t *testing.T) { // P19.2
	p := start(t, its.Its{Devices: flat(0, 8), Colls: win(8, 8)}, noise(api.MaxMem))
	p.core(t, 512, 1000, 2000, true)
	p.must(t, mapc(0, 0), mapd(0, 12, 65536))
	for ev := range 8192 {
		p.s.Do(p.m, p.ts, mapti(0, ev, 8192+ev%512, 0))
		p.want.do(mapti(0, ev, 8192+ev%512, 0))
	}
	p.keeps(t)
	for id := 8192; id < 8192+512; id++ {
		p.set(t, 0, id, true)
	}
	p.fails(t, mapd(0, 13, 0), api.ErrTable)
	p.must(t, mapd(0, 11, 65536))
	p.waits(t, 0)
	if v := p.load(65536 + 32768); v != 0 {
		t.Errorf("event 4096 of the old table: %#x", v)
	}
}

func TestTwoLevels(t *testing.T) { // P19.2: devices by pages
	p := world(t)
	p.change(func(s *its.Its) { s.Devices = tables.Table{Window: win(0, 64), Page: 32} })
	p.must(t, mapc(0, 0))
	p.fails(t, mapd(5, 1, 1024), api.ErrTable)
	p.fails(t, api.Command{Op: api.Mapd, Device: 5}, api.ErrTable)
	p.poke(8, 1<<63+3000)
	p.must(t, mapd(5, 1, 1024), mapti(5, 3, 8199, 0), at(api.Int, 5, 3))
	p.waits(t, 0, 8199)
	for _, dev := range []int{0, 3, 4, 6, 7, 8, 31, 32} {
		want := api.ErrTable
		if dev >= 4 && dev < 8 {
			want = api.ErrDevice
		}
		if e := p.message(t, dev, 3); e != want {
			t.Errorf("Message(%d): %d, want %d", dev, e, want)
		}
		p.fails(t, at(api.Discard, dev, 3), want)
	}
	p.poke(8, 1<<63+4065) // the memory does not hold that page
	if e := p.message(t, 5, 3); e != api.ErrTable {
		t.Errorf("Message: %d", e)
	}
}

func TestMapdOfAPageInTheTable(t *testing.T) { // P19.2: the entry is written after the table is wiped
	p := world(t)
	p.change(func(s *its.Its) { s.Devices = tables.Table{Window: win(0, 64), Page: 32} })
	p.poke(8, 1<<63+1040)
	p.must(t, mapd(5, 2, 1024))
	for k := range 8 {
		want := uint64(0)
		if k == 3 {
			want = 1<<63 + 1024 + 2
		}
		if v := p.load(1024 + 8*k); v != want {
			t.Errorf("event %d: %#x, want %#x", k, v, want)
		}
	}
	p.must(t, mapd(5, 2, 1024), mapd(6, 2, 1024))
	if x := p.route(t, 5, 4); x != (way{e: api.ErrDevice}) { // wiped with the table of 6
		t.Errorf("Route: %v", x)
	}
}

func TestMapdLosesThePage(t *testing.T) { // P19.2: the error of Put, after all the rest
	for _, c := range []api.Command{mapd(5, 1, 2048), {Op: api.Mapd, Device: 5}} {
		p := world(t)
		p.change(func(s *its.Its) { s.Devices = tables.Table{Window: win(1024, 16), Page: 32} })
		p.must(t, mapc(0, 0))
		p.poke(1032, 1<<63+3000)   // the page of 5, and event 1 of 5, which is 3000 in collection 0
		p.poke(3008, 1<<63+1024+1) // the table of 5 is at 1024
		p.poke(1048, 1<<63+8200)
		p.poke(2048, 77)
		p.set(t, 0, 8200, true)
		p.fails(t, c, api.ErrTable)
		p.waits(t, 0)
		if a, b := p.load(1032), p.load(1048); a != 0 || b != 0 {
			t.Errorf("events: %#x, %#x", a, b)
		}
		if v := p.load(3008); v != 1<<63+1024+1 {
			t.Errorf("the device: %#x", v)
		}
		if v := p.load(2048); c.Valid != (v == 0) {
			t.Errorf("the new table: %#x", v)
		}
	}
}

func TestForgettingInTurn(t *testing.T) { // P19.2: a route is read after the events before it were forgotten
	for _, on := range []bool{false, true} {
		p := world(t)
		p.core(t, 64, 600, 1032, false) // its pending table is the entry of event 1: 8255 is the bit that makes it valid
		p.must(t, mapc(0, 0), mapc(2, 2))
		p.poke(16, 1<<63+1024+1)
		p.poke(1024, 1<<63+2<<32+8255)
		p.poke(1032, 1<<63+8200)
		p.poke(1040, 1<<63+8201)
		if on {
			p.ts[2].Enable(p.m)
			p.want.ts[2].Enable(p.want.m)
			p.poke(1032, 1<<63+8200)
		}
		p.set(t, 0, 8200, true)
		p.set(t, 0, 8201, true)
		p.must(t, api.Command{Op: api.Mapd, Device: 2})
		if on {
			p.waits(t, 0)
			continue
		}
		p.waits(t, 0, 8200)
		if a, b, c := p.load(1024), p.load(1032), p.load(1040); a != 0 || b != 8200 || c != 0 {
			t.Errorf("events: %#x, %#x, %#x", a, b, c)
		}
	}
}

func TestForgettingACollection(t *testing.T) { // P19.2: in increasing order, as the first event is a collection too
	p := world(t)
	p.change(func(s *its.Its) { s.Colls = win(1040, 8) })
	p.poke(16, 1<<63+1024+2)
	p.poke(1040, 1<<63+0<<32+1<<16+1) // event 2, and the collection 0 with the target 1
	for k, at := range []int{1024, 1032, 1048, 1056} {
		p.poke(at, 1<<63+8192+uint64(k))
		p.set(t, 1, 8192+k, true)
	}
	p.must(t, api.Command{Op: api.Mapd, Device: 2})
	p.waits(t, 1, 8194, 8195)
	for k := range 8 {
		if v := p.load(1024 + 8*k); v != 0 {
			t.Errorf("event %d: %#x", k, v)
		}
	}
}

func TestMaptiLosesItsCollection(t *testing.T) { // P19.2: the side is asked for after the event is forgotten
	p := world(t)
	p.change(func(s *its.Its) { s.Colls = win(1024, 16) })
	p.poke(16, 1<<63+1024+2)
	p.poke(1024, 1<<63+1<<32+1<<16+1) // event 0, and the collection 0 with the target 1
	p.poke(1032, 1<<63+1)             // the collection 1, with this target, too
	p.put(496, slices.Repeat([]byte{0xf9}, 16)...)
	p.must(t, mapti(2, 0, 8200, 0))
	if in, n := p.ts[1].Setup(8200); in || n != 0 {
		t.Errorf("Setup: %v, %d", in, n)
	}
	if v := p.load(1024); v != 1<<63+8200 {
		t.Errorf("event 0: %#x", v)
	}
	p.must(t, mapti(2, 0, 8201, 1))
	if in, n := p.ts[1].Setup(8201); !in || n != 248 {
		t.Errorf("Setup: %v, %d", in, n)
	}
}

func TestOrderOfMapti(t *testing.T) { // P19.2: forgotten, then read, then mapped
	p := world(t)
	p.core(t, 8, 1024, 1032, false) // the configuration table is event 0, and the pending table is in event 1
	p.must(t, mapc(2, 2))
	p.poke(16, 1<<63+1024+1)
	p.poke(1024, 1<<63+2<<32+0xfff8)
	p.must(t, mapti(2, 0, 8192, 2)) // byte 0 was 0xf8, is 0 when it is read, and then 0 of 8192
	p.must(t, mapti(2, 0, 8193, 2)) // byte 1 is 0 when it is read, and then 0x20 of 8193
	for id, want := range map[int]int{8192: 0, 8193: 0} {
		if in, n := p.ts[2].Setup(id); in || n != want {
			t.Errorf("Setup(%d): %v, %d", id, in, n)
		}
	}
	p.poke(1024, 0xf9f9)
	p.must(t, mapti(2, 0, 8193, 2)) // not valid, so that nothing is forgotten
	if in, n := p.ts[2].Setup(8193); !in || n != 248 {
		t.Errorf("Setup: %v, %d", in, n)
	}
}

func TestOrderOfMovi(t *testing.T) { // P19.2: moved, then read, then changed
	p := world(t)
	p.core(t, 16, 700, 703, false) // byte 3 is the configuration of 8195 and tells of 8192 to 8199
	p.core(t, 16, 1017, 800, true) // byte 11 is the lowest of the number of the event's collection
	p.must(t, mapc(0, 0), mapc(2, 2), mapc(3, 3))
	p.poke(16, 1<<63+1024+1)
	p.poke(1024, 1<<63+8195)
	p.set(t, 0, 8195, true)
	p.must(t, movi(2, 0, 2))
	if in, n := p.ts[2].Setup(8195); in || n != 8 {
		t.Errorf("Setup of 2: %v, %d", in, n)
	}
	p.poke(1024, 1<<63+0<<32+8203)
	p.must(t, movi(2, 0, 3))
	if in, n := p.ts[3].Setup(8203); in || n != 0 {
		t.Errorf("Setup of 3: %v, %d", in, n)
	}
	p.must(t, movi(2, 0, 3))
	if in, n := p.ts[3].Setup(8203); !in || n != 0 {
		t.Errorf("Setup of 3: %v, %d", in, n)
	}
}

// queued returns a mappedWorld with these commands in its queue.
func queued(t *testing.T, cs ...api.Command) *pair {
	t.Helper()
	p := mappedWorld(t)
	p.fill(t, cs...)
	return p
}

func TestStep(t *testing.T) { // P19.3
	move, set := movi(3, 2, 0), at(api.Int, 3, 2)
	p := queued(t, set, move, syncs(1))
	for k, c := range []api.Command{set, move, syncs(1)} {
		if x := p.step(t); x != (done{c: c}) {
			t.Errorf("Step: %v, want %v", x, c)
		}
		if p.s.Queue.Read != 32*(k+1) || p.s.Queue.Write != 96 {
			t.Errorf("Queue: %v", p.s.Queue)
		}
	}
	p.waits(t, 0, 8200)
	for range 2 {
		if x := p.step(t); x != (done{e: api.ErrEmpty}) || p.s.Stalled {
			t.Errorf("Step: %v", x)
		}
	}
}

func TestErrorsOfStep(t *testing.T) { // P19.3, W3, W4
	p := queued(t, syncs(5), syncs(1))
	p.change(func(s *its.Its) { s.On, s.Stalled = false, true })
	q := p.again()
	q.change(func(s *its.Its) { s.Queue.Read = s.Queue.Write })
	for _, x := range []struct {
		by   func(s *its.Its)
		want api.Errno // where commands wait
		none api.Errno // where none waits
	}{
		{func(s *its.Its) {}, api.ErrOff, api.ErrOff},
		{func(s *its.Its) { s.Stalled = false }, api.ErrOff, api.ErrOff},
		{func(s *its.Its) { s.On, s.Stalled = true, true }, api.ErrStalled, api.ErrStalled},
		{func(s *its.Its) { s.Stalled = false }, api.ErrCore, api.ErrEmpty},
		{func(s *its.Its) {}, api.ErrStalled, api.ErrEmpty},
		{func(s *its.Its) { s.On = false }, api.ErrOff, api.ErrOff},
	} {
		p.change(x.by)
		q.change(x.by)
		stalled := p.s.Stalled || x.want == api.ErrCore
		if a, b := p.step(t), q.step(t); a != (done{e: x.want}) || b != (done{e: x.none}) {
			t.Errorf("Step: %v, %v, want %v", a, b, x.want)
		}
		if p.s.Stalled != stalled || p.s.Queue.Read != 0 {
			t.Errorf("after Step: %v", p.s)
		}
	}
}

func TestStepStalls(t *testing.T) { // P19.3: with each error
	for _, x := range []struct {
		c    api.Command
		want api.Errno
	}{
		{syncs(2), api.ErrCore},
		{at(api.Int, 9, 0), api.ErrTable},
		{at(api.Int, 4, 0), api.ErrDevice},
		{at(api.Int, 3, 0), api.ErrEvent},
		{movi(3, 2, 5), api.ErrColl},
		{mapti(3, 1, 5, 0), api.ErrLpi},
		{mapd(3, 0, 4096), api.ErrTable},
	} {
		p := queued(t, x.c, syncs(0))
		if y := p.step(t); y != (done{e: x.want}) || !p.s.Stalled || p.s.Queue.Read != 0 {
			t.Errorf("Step of %v: %v, %v", x.c, y, p.s)
		}
		for range 2 {
			if y := p.step(t); y != (done{e: api.ErrStalled}) {
				t.Errorf("Step: %v", y)
			}
		}
		p.resume(t, false)
		if y := p.step(t); y != (done{e: x.want}) {
			t.Errorf("Step again: %v", y)
		}
		p.resume(t, true)
		if y := p.step(t); y != (done{c: syncs(0)}) || p.s.Stalled {
			t.Errorf("Step after it: %v", y)
		}
	}
}

func TestStepOfNoCommand(t *testing.T) { // P19.3: the errors of queue.Head
	p := mappedWorld(t)
	p.change(func(s *its.Its) { s.Queue.Write = 64 })
	if x := p.step(t); x != (done{e: api.ErrCommand}) || !p.s.Stalled || p.s.Queue.Read != 0 {
		t.Errorf("Step: %v, %v", x, p.s)
	}
	for _, w := range []api.Window{win(4096-319, 320), win(1<<40, 320), win(math.MaxInt, 320), win(-1, 320)} {
		p = queued(t, syncs(0))
		p.change(func(s *its.Its) { s.Queue.Window = w })
		if x := p.step(t); x != (done{e: api.ErrUnmapped}) || !p.s.Stalled || p.s.Queue.Read != 0 {
			t.Errorf("%v: Step: %v, %v", w, x, p.s)
		}
	}
	for _, q := range []queue.Queue{
		{}, {Window: win(128, 320), Write: 33}, {Window: win(128, 320), Read: -32}, {Window: win(128, 300), Write: 32}, {Window: win(128, 320), Read: 320},
		{Window: win(128, -320), Write: 32}, {Window: win(128, math.MaxInt), Write: math.MaxInt}, {Window: win(128, 320), Read: math.MinInt, Write: 32},
	} {
		p = queued(t, syncs(0))
		p.change(func(s *its.Its) { s.Queue = q })
		if x := p.step(t); x != (done{e: api.ErrEmpty}) || p.s.Stalled {
			t.Errorf("%v: Step: %v, %v", q, x, p.s)
		}
		if n, e := p.run(t, 5); n != 0 || e != api.OK {
			t.Errorf("%v: Run: %d, %d", q, n, e)
		}
		p.change(func(s *its.Its) { s.Stalled = true })
		p.resume(t, true)
		if p.s != (its.Its{On: true, Queue: q, Devices: p.s.Devices, Colls: p.s.Colls}) {
			t.Errorf("Resume: %v", p.s)
		}
	}
}

func TestStepAround(t *testing.T) { // P19.3: the queue passes from its last entry to its first
	p := mappedWorld(t)
	p.change(func(s *its.Its) { s.Queue.Read, s.Queue.Write = 288, 288 })
	p.fill(t, syncs(0), syncs(2), syncs(1))
	p.step(t)
	if p.s.Queue.Read != 0 {
		t.Errorf("Queue: %v", p.s.Queue)
	}
	p.step(t)
	p.resume(t, true)
	if n, e := p.run(t, 9); n != 1 || e != api.OK || p.s.Queue.Read != 64 {
		t.Errorf("Run: %d, %d, %v", n, e, p.s.Queue)
	}
	p.change(func(s *its.Its) { s.Queue.Read, s.Queue.Write, s.Stalled = 288, 0, true })
	p.resume(t, true)
	if p.s.Queue.Read != 0 {
		t.Errorf("Queue: %v", p.s.Queue)
	}
}

func TestStepChangesWhatDoChanges(t *testing.T) { // P19.3: also with an error
	p := world(t)
	p.change(func(s *its.Its) { s.Devices = tables.Table{Window: win(1024, 16), Page: 32} })
	p.must(t, mapc(0, 0))
	p.poke(1032, 1<<63+3000)
	p.poke(3008, 1<<63+1024+1)
	p.fill(t, mapd(5, 1, 2048))
	if x := p.step(t); x != (done{e: api.ErrTable}) || !p.s.Stalled {
		t.Errorf("Step: %v, %v", x, p.s)
	}
	if v := p.load(1032); v != 0 {
		t.Errorf("event 1: %#x", v)
	}
}

func TestCommandsThatChangeTheQueue(t *testing.T) { // P19.3: each one is read when its turn comes
	p := queued(t, mapti(3, 1, 8192, 0), syncs(0), syncs(1))
	p.poke(24, 1<<63+7) // the table of 3 is at 0, and so its event 20 is the first word of the command at 160
	p.poke(128, uint64(api.Mapti)+3<<32)
	p.poke(136, 8192<<32+20) // event 20 becomes 8192 in the collection 0: no command has bit 13 in word 0
	if x := p.step(t); x != (done{c: mapti(3, 20, 8192, 0)}) {
		t.Errorf("Step: %v", x)
	}
	if x := p.step(t); x != (done{e: api.ErrCommand}) || !p.s.Stalled {
		t.Errorf("Step: %v", x)
	}
	p.resume(t, true)
	if x := p.step(t); x != (done{c: syncs(1)}) {
		t.Errorf("Step: %v", x)
	}
}

func TestResume(t *testing.T) { // P19.3
	p := queued(t, syncs(0), syncs(1))
	for range 3 {
		p.resume(t, true) // it is not stalled
		p.resume(t, false)
	}
	if p.s.Queue.Read != 0 || p.s.Stalled {
		t.Errorf("Resume: %v", p.s)
	}
	for k, pass := range []bool{false, true, true, true, false} {
		p.change(func(s *its.Its) { s.Stalled = true })
		p.resume(t, pass)
		if want := []int{0, 32, 64, 64, 64}[k]; p.s.Queue.Read != want || p.s.Stalled {
			t.Errorf("Resume: %v", p.s)
		}
	}
	p.change(func(s *its.Its) { *s = its.Its{Stalled: true} })
	p.resume(t, true)
	if p.s != (its.Its{}) {
		t.Errorf("Resume: %v", p.s)
	}
	p = queued(t, syncs(0)) // while it is off, too
	p.change(func(s *its.Its) { s.On, s.Stalled = false, true })
	p.resume(t, true)
	if p.s.On || p.s.Stalled || p.s.Queue.Read != 32 {
		t.Errorf("Resume: %v", p.s)
	}
}

func TestRun(t *testing.T) { // P19.3
	for _, x := range []struct {
		most, n int
		e       api.Errno
	}{
		{0, 0, api.OK}, {-1, 0, api.OK}, {math.MinInt, 0, api.OK}, {1, 1, api.OK}, {2, 2, api.OK}, {3, 3, api.OK}, {4, 3, api.OK}, {math.MaxInt, 3, api.OK},
	} {
		p := queued(t, at(api.Int, 3, 2), movi(3, 2, 0), syncs(0))
		if n, e := p.run(t, x.most); n != x.n || e != x.e || p.s.Queue.Read != 32*n || p.s.Stalled {
			t.Errorf("Run(%d): %d, %d, %v", x.most, n, e, p.s)
		}
		p.run(t, x.most)
		p = queued(t, at(api.Int, 3, 2), movi(3, 2, 5), syncs(0))
		n, e := p.run(t, x.most)
		if want := min(x.n, 1); n != want || e == api.OK != (x.n < 2) || e != api.OK && e != api.ErrColl || p.s.Queue.Read != 32*n {
			t.Errorf("Run(%d): %d, %d, %v", x.most, n, e, p.s)
		}
		p.run(t, x.most)
		p.resume(t, true)
		p.run(t, x.most)
	}
}

func TestErrorsOfRun(t *testing.T) { // P19.3
	for _, x := range []struct {
		s    its.Its
		want api.Errno
	}{{its.Its{}, api.ErrOff}, {its.Its{Stalled: true}, api.ErrOff}, {its.Its{On: true, Stalled: true}, api.ErrStalled}, {its.Its{On: true}, api.OK}} {
		for _, left := range []bool{false, true} {
			p := mappedWorld(t)
			if left {
				p.fill(t, syncs(0))
			}
			p.change(func(s *its.Its) { s.On, s.Stalled = x.s.On, x.s.Stalled })
			for _, most := range []int{0, -5, math.MinInt} {
				if n, e := p.run(t, most); n != 0 || e != api.OK {
					t.Errorf("%v: Run(%d): %d, %d", x.s, most, n, e)
				}
			}
			want := 0
			if left && x.want == api.OK {
				want = 1
			}
			if n, e := p.run(t, 3); n != want || e != x.want {
				t.Errorf("%v: Run: %d, %d", x.s, n, e)
			}
		}
	}
}

func TestGreatestQueue(t *testing.T) { // P19.3: as many commands as a queue may have
	p := start(t, its.Its{On: true, Queue: over(0, 32768)}, make([]byte, 32768))
	p.core(t, 1, 0, 0, false)
	for range 1023 {
		p.fill(t, syncs(0))
	}
	if n, e := p.run(t, 1000); n != 1000 || e != api.OK {
		t.Errorf("Run: %d, %d", n, e)
	}
	for range 1000 {
		p.fill(t, syncs(0))
	}
	if n, e := p.run(t, math.MaxInt); n != 1023 || e != api.OK {
		t.Errorf("Run: %d, %d", n, e)
	}
}

func TestArgumentsStay(t *testing.T) { // W6: processors are neither exchanged nor kept
	p := mappedWorld(t)
	p.fill(t, at(api.Int, 3, 2), movi(3, 2, 0), movall(0, 1), mapd(3, 2, 2048))
	ts := slices.Concat(p.ts, make([]*lpi.Lpis, 2))[:2]
	was := slices.Clone(ts)
	if n, e := p.s.Run(p.m, ts, 9); n != 4 || e != api.OK || !slices.Equal(ts, was) || ts[:4][2] != nil {
		t.Errorf("Run: %d, %d, %v", n, e, ts)
	}
	for k := range ts {
		ts[k] = nil
	}
	if e := p.s.Do(p.m, p.ts, mapti(3, 7, 8207, 1)); e != api.OK {
		t.Errorf("Do: %d", e)
	}
	if e := p.s.Message(p.m, p.ts, 3, 7); e != api.OK || !p.ts[1].Has(p.m, 8207) {
		t.Errorf("Message: %d", e)
	}
}

func TestTwoServices(t *testing.T) { // W2: what one does hangs on the tables alone
	p := mappedWorld(t)
	q := p.s
	q.Queue.Fill(p.m, syncs(9))
	if _, e := q.Step(p.m, p.ts); e != api.ErrCore || !q.Stalled || p.s.Stalled {
		t.Errorf("Step: %d", e)
	}
	if e := q.Do(p.m, p.ts, mapti(3, 1, 8199, 0)); e != api.OK {
		t.Errorf("Do: %d", e)
	}
	if r, target, e := p.s.Route(p.m, 3, 1); r != (api.Route{Number: 8199, Valid: true}) || target != 0 || e != api.OK {
		t.Errorf("Route: %v, %d, %d", r, target, e)
	}
}

func TestFieldsAreAnything(t *testing.T) { // W1
	for _, w := range append(outside(256), win(0, 64), win(128, 8), win(0, 0), win(7, 249)) {
		for _, page := range []int{0, 8, 16, 3, -8, 1 << 17, math.MinInt, math.MaxInt} {
			p := start(t, its.Its{On: true, Devices: tables.Table{Window: w, Page: page}, Colls: w, Queue: queue.Queue{Window: w, Write: 32}}, noise(256))
			p.core(t, 8, 64, 80, true)
			for _, c := range some() {
				p.do(t, c)
			}
			p.message(t, 0, 0)
			p.route(t, 1, 1)
			p.run(t, 5)
			p.resume(t, true)
			p.step(t)
			p.resume(t, false)
		}
	}
}

// some lists a command of each kind.
func some() []api.Command {
	return []api.Command{
		mapd(0, 0, 0), mapd(1, 0, 0), mapc(0, 0), mapc(1, 1), mapti(0, 1, 8192, 0), mapi(1, 0, 1), movi(0, 1, 0), at(api.Int, 0, 1), at(api.ClearOp, 0, 1),
		at(api.Inv, 0, 1), invall(0), movall(0, 0), syncs(0), at(api.Discard, 0, 1), {Op: api.Mapc}, {Op: api.Mapd, Device: 1},
	}
}

// anyCommand returns a command, many of which can be executed in a small world.
func anyCommand(n func(int) int) api.Command {
	dev, ev, coll := n(3), n(3), n(3)
	switch n(24) {
	case 0:
		return mapd(dev, n(4), 256*n(9))
	case 1:
		return api.Command{Op: api.Mapd, Device: dev + n(3), Bits: n(3), Addr: 256 * n(3)}
	case 2, 3:
		return mapc(coll+n(3), n(4))
	case 4:
		return api.Command{Op: api.Mapc, Coll: coll + n(3), Target: n(2)}
	case 5, 6, 7, 8:
		return mapti(dev, ev+n(3), 8190+n(20), coll+n(2))
	case 9, 10:
		return mapi(dev, ev, coll)
	case 11, 12, 13:
		return movi(dev, ev, coll)
	case 14:
		return invall(coll)
	case 15:
		return movall(n(4), n(4))
	case 16:
		return syncs(n(4))
	}
	return at([]api.Op{api.Int, api.Int, api.ClearOp, api.Inv, api.Inv, api.Discard}[n(6)], dev, ev)
}

// anyWorld returns a small world: with tables apart from one another, or anywhere. Some things are mapped.
func anyWorld(t *testing.T, n func(int) int) *pair {
	t.Helper()
	s := its.Its{On: true, Devices: flat(0, 32), Colls: win(32, 32), Queue: over(64, 96+32*n(3))}
	apart := n(2) == 0
	if !apart {
		s.Devices.Window.At, s.Colls.At, s.Queue.Window.At = 8*n(160), 8*n(160), 8*n(160)
	}
	if n(3) == 0 {
		s.Devices = tables.Table{Window: win(s.Devices.Window.At, 8), Page: 32}
	}
	p := start(t, s, make([]byte, 2100))
	for k := range 1 + n(3) {
		prop, pend := 300+20*k, 400+20*k
		if !apart {
			prop, pend = n(1000), 1000+20*k+n(1000)
		}
		p.core(t, 8+n(9), prop, pend, n(2) == 0)
	}
	p.turn(n)
	for k := range 3 {
		p.do(t, mapc(k, n(len(p.ts))))
		p.do(t, mapd(k, n(3), 512+256*n(5)))
		p.do(t, mapti(k, n(3), 8192+n(8), n(3)))
	}
	return p
}

// turn lets a table of two levels refer to another page.
func (p *pair) turn(n func(int) int) {
	if p.s.Devices.Page > 0 {
		p.poke(p.s.Devices.Window.At, 1<<63+uint64(8*n(200)))
	}
}

// anyStep makes one of the calls, or changes something beside the service.
func (p *pair) anyStep(t *testing.T, n func(int) int, count map[api.Op]int) {
	t.Helper()
	switch n(12) {
	case 0, 1, 2, 3, 4:
		if c := anyCommand(n); p.do(t, c) == api.OK {
			count[c.Op]++
		}
	case 5, 6:
		c := anyCommand(n)
		p.s.Queue.Put(p.m, c)
		p.want.Queue.Put(p.want.m, c)
	case 7:
		p.run(t, n(4)-1)
		p.step(t)
	case 8:
		p.resume(t, n(3) > 0)
	case 9:
		p.message(t, n(4), n(5))
		p.route(t, n(4), n(5))
	case 10:
		p.set(t, n(len(p.ts)), 8192+n(8), n(3) > 0)
	case 11:
		p.put(n(2000), byte(n(256)))
		on := n(8) > 0
		p.change(func(s *its.Its) { s.On = on })
		if n(8) == 0 {
			p.turn(n)
		}
	}
}

func TestRows(t *testing.T) { // P19.1 to P19.3
	count := map[api.Op]int{}
	for seed := range 600 {
		n := roll(seed)
		p := anyWorld(t, n)
		for range 100 {
			p.anyStep(t, n, count)
		}
	}
	for _, c := range some() {
		if count[c.Op] < 100 {
			t.Errorf("%d was executed %d times", c.Op, count[c.Op])
		}
	}
}

func TestNoMemory(t *testing.T) { // W1
	m, _ := mem.New(0)
	s := its.Its{On: true}
	for _, c := range some() {
		want := api.ErrTable
		switch c.Op {
		case api.Mapc, api.InvallOp:
			want = api.ErrColl
		case api.Movall, api.Sync:
			want = api.ErrCore
		}
		if c.Op == api.Mapc && c.Valid {
			want = api.ErrCore
		}
		if e := s.Do(m, nil, c); e != want {
			t.Errorf("Do(%v): %d, want %d", c, e, want)
		}
	}
	if e := s.Message(m, []*lpi.Lpis{}, 0, 0); e != api.ErrTable {
		t.Errorf("Message: %d", e)
	}
}
