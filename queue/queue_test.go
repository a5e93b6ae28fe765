package queue_test

import (
	"math"
	"slices"
	"testing"

	"crier/api"
	"crier/queue"
)

func TestExample(t *testing.T) { // P17.1 to P17.3
	m := create(t, make([]byte, 200))
	sync := api.Command{Op: api.Sync}
	q, e := queue.New(win(8, 96))
	if q.Room() != 2 || e != api.OK {
		t.Fatalf("New: %v, %d", q, e)
	}
	if n, e := q.Fill(m, sync, sync, sync); n != 2 || e != api.ErrFull {
		t.Errorf("Fill: %d, %d", n, e)
	}
	if c, e := q.Head(m); c != sync || e != api.OK {
		t.Errorf("Head: %v, %d", c, e)
	}
	if e := q.Pass(); e != api.OK || q.Left() != 1 || q.Room() != 1 {
		t.Errorf("Pass: %d, %v", e, q)
	}
	if e := q.SetWrite(33); e != api.ErrArg {
		t.Errorf("SetWrite(33): %d", e)
	}
	if e := q.SetWrite(0); e != api.OK || q.Left() != 2 {
		t.Errorf("SetWrite(0): %d, %v", e, q)
	}
	if l := all(q, m); !slices.Equal(l, []load{{sync, api.OK}, {api.Command{}, api.ErrCommand}}) {
		t.Errorf("Each: %v", l)
	}
	if n := q.Wrong(m); n != 1 {
		t.Errorf("Wrong: %d", n)
	}
}

func TestWrittenOut(t *testing.T) { // P17.2, P17.3
	b := slices.Repeat([]byte{0xee}, 75)
	m := create(t, b)
	q, _ := queue.New(win(5, 64))
	if e := q.Put(m, api.Command{Op: api.Movall, Number: 0x0605, Target: 0x0807}); e != api.OK || q != on(5, 64, 0, 32) {
		t.Fatalf("Put: %d, %v", e, q)
	}
	copy(b[5:], []byte{14, 0, 0, 0, 0, 0, 0, 0, 0, 0, 0, 0, 0, 0, 0, 0, 0, 0, 7, 8, 0, 0, 0, 0, 0, 0, 5, 6, 0, 0, 0, 0})
	keeps(t, m, b)
	if e := q.Pass(); e != api.OK || q != on(5, 64, 32, 32) {
		t.Fatalf("Pass: %d, %v", e, q)
	}
	c := api.Command{Op: api.Mapd, Device: 0x01020304, Bits: 7, Addr: 0x0a0b0c0d0e00, Valid: true}
	if e := q.Put(m, c); e != api.OK || q != on(5, 64, 32, 0) {
		t.Fatalf("Put at the end: %d, %v", e, q)
	}
	copy(b[37:], []byte{8, 0, 0, 0, 4, 3, 2, 1, 7, 0, 0, 0, 0, 0, 0, 0, 0, 0xe, 0xd, 0xc, 0xb, 0xa, 0, 0x80, 0, 0, 0, 0, 0, 0, 0, 0})
	keeps(t, m, b)
	if got, e := q.Head(m); got != c || e != api.OK {
		t.Errorf("Head: %v, %d", got, e)
	}
	if e := q.Pass(); e != api.OK || q != on(5, 64, 0, 0) {
		t.Errorf("Pass at the end: %d, %v", e, q)
	}
}

func TestNew(t *testing.T) { // P17.1
	for _, at := range []int{0, 1, 8, 31, 4096, 1 << 17, 1 << 40, 1<<40 + 1, math.MaxInt - 31, math.MaxInt} {
		for _, size := range []int{32, 64, 96, 128, 4096, 32 * 1023, 32 * 1024} {
			q, e := queue.New(win(at, size))
			if q != on(at, size, 0, 0) || e != api.OK {
				t.Errorf("New({%d, %d}): %v, %d", at, size, q, e)
			}
			if q.Left() != 0 || q.Room() != size/32-1 {
				t.Errorf("%v: Left %d, Room %d", q, q.Left(), q.Room())
			}
		}
	}
}

func TestNewOfWrongWindows(t *testing.T) { // P17.1, W1, W3
	wrong := []api.Window{
		{}, win(8, 0), win(0, 1), win(0, 31), win(0, 33), win(0, 48), win(0, 95), win(0, 97), win(0, 100), win(0, -1), win(0, -32), win(8, -64),
		win(0, 32*1024+32), win(0, 32*1025), win(0, 32*1024+1), win(0, 32*1024-1), win(0, 32*2048), win(0, 1<<17), win(0, 1<<40),
		win(-1, 32), win(-1, 64), win(-32, 64), win(-8, 32*1024), win(math.MinInt, 32), win(math.MinInt+32, 64), win(-1, 0), win(-1, 33), win(-1, -32),
		win(0, math.MaxInt), win(0, math.MaxInt-31), win(0, math.MinInt), win(math.MinInt, math.MinInt), win(math.MaxInt, math.MaxInt),
		win(math.MaxInt, math.MinInt), win(math.MinInt, math.MaxInt), win(0, 1<<62), win(0, 1<<53),
	}
	for _, w := range wrong {
		if q, e := queue.New(w); q != (queue.Queue{}) || e != api.ErrArg {
			t.Errorf("New(%v): %v, %d", w, q, e)
		}
	}
	for _, n := range ends() {
		_, e := queue.New(win(0, n))
		if right := 32 <= n && n <= 32*1024 && n%32 == 0; right != (e == api.OK) {
			t.Errorf("New({0, %d}): %d", n, e)
		}
		_, e = queue.New(win(n, 32))
		if (n >= 0) != (e == api.OK) {
			t.Errorf("New({%d, 32}): %d", n, e)
		}
	}
}

func TestNewOfEachSize(t *testing.T) { // P17.1
	for size := -100; size <= 32*1030; size++ {
		_, e := queue.New(win(3, size))
		if right := 32 <= size && size <= 32*1024 && size%32 == 0; right != (e == api.OK) {
			t.Errorf("New({3, %d}): %d", size, e)
		}
	}
}

// every calls f with each queue of few entries in a window at at, right or wrong in any of its fields.
func every(at int, f func(q queue.Queue)) {
	places := []int{-32, -1, 0, 1, 16, 31, 32, 33, 64, 95, 96, 97, 128, 160}
	for _, size := range []int{-32, 0, 31, 32, 33, 64, 80, 96, 128} {
		for _, read := range places {
			for _, write := range places {
				f(on(at, size, read, write))
			}
		}
	}
}

// foreign lists queues of which at least one field is far from what New and the calls make.
func foreign() []queue.Queue {
	var l []queue.Queue
	for _, n := range ends() {
		l = append(
			l, on(8, n, 0, 0), on(8, n, 0, 32), on(n, 96, 0, 0), on(n, 96, 32, 0), on(8, 96, n, 0), on(8, 96, 64, n), on(8, 96, n, n), on(n, n, n, n),
			on(8, n, n, 0), on(8, n, 0, n), on(8, n, n, n), on(8, n, n-32, 0), on(8, n, 0, n-32), on(n, n, 0, 0), on(n, 96, n, n), on(n, 32, 0, 0), on(n, 64, 0, 32),
		)
	}
	return l
}

func TestEveryQueue(t *testing.T) { // P17.1 to P17.3
	b := full(8, 8+32*4+3)
	every(8, func(q queue.Queue) {
		start(t, q, b).agree(t)
		start(t, q, b).put(t, api.Command{Op: api.Inv, Device: 77})
		start(t, q, b).put(t, api.Command{Op: api.Inv, Coll: 1})
		start(t, q, b).pass(t)
		for _, n := range []int{0, 1, 2, 3, 4, 5} {
			cs := make([]api.Command, n)
			for k := range cs {
				cs[k] = nth(k + 20)
			}
			start(t, q, b).fill(t, cs...)
		}
		for at := -33; at <= 161; at++ {
			start(t, q, b).setWrite(t, at)
		}
	})
}

func TestForeignQueues(t *testing.T) { // P17.1 to P17.3, W1
	b := full(8, 8+96+3)
	for _, q := range foreign() {
		start(t, q, b).agree(t)
		start(t, q, b).put(t, nth(20))
		start(t, q, b).put(t, api.Command{})
		start(t, q, b).fill(t)
		start(t, q, b).fill(t, nth(21), nth(22), nth(23), nth(24))
		start(t, q, b).pass(t)
		for _, at := range []int{0, 32, 33, -32, q.Read, q.Write, q.Window.Size, math.MaxInt, math.MinInt} {
			start(t, q, b).setWrite(t, at)
		}
	}
}

func TestZeroQueue(t *testing.T) { // P17.1 to P17.3
	b := full(0, 64)
	p := start(t, queue.Queue{}, b)
	p.agree(t)
	p.put(t, nth(0))
	p.fill(t)
	p.fill(t, nth(0))
	p.pass(t)
	p.setWrite(t, 0)
}

func TestPut(t *testing.T) { // P17.2
	for n := 1; n <= 6; n++ {
		for at := range 5 {
			for first := range n {
				b := full(0, at+32*n+at)
				p := start(t, on(at, 32*n, 32*first, 32*first), b)
				for k := range n + 2 {
					p.put(t, nth(30+k))
				}
			}
		}
	}
}

func TestPutOfEachCommand(t *testing.T) { // P17.2, P17.3
	for _, c := range []api.Command{
		{Op: api.Movi, Device: 1, Event: 2, Coll: 3}, {Op: api.Int, Device: 1, Event: 2}, {Op: api.ClearOp, Device: 1<<32 - 1, Event: 1<<32 - 1},
		{Op: api.Sync, Target: 1<<16 - 1}, {Op: api.Mapd, Device: 9, Bits: 31, Addr: 1<<48 - 256, Valid: true}, {Op: api.Mapc, Coll: 1, Target: 2, Valid: true},
		{Op: api.Mapti, Device: 3, Event: 2, Number: 8200, Coll: 1}, {Op: api.Mapi, Device: 3, Event: 2, Coll: 1}, {Op: api.Inv, Device: 3, Event: 2},
		{Op: api.InvallOp, Coll: 4}, {Op: api.Movall, Number: 1, Target: 2}, {Op: api.Discard, Device: 5, Event: 6},
	} {
		p := start(t, on(3, 96, 64, 64), full(0, 99))
		p.put(t, c)
		if got, e := p.q.Head(p.m); got != c || e != api.OK {
			t.Errorf("Head: %v, %d, want %v", got, e, c)
		}
	}
}

func TestPutWhatIsWrong(t *testing.T) { // P17.2, W4
	for _, c := range bad() {
		for _, x := range []struct {
			q    queue.Queue
			want api.Errno
		}{
			{on(8, 96, 0, 0), api.ErrCommand}, {on(8, 96, 32, 64), api.ErrCommand}, {on(8, 96, 64, 0), api.ErrCommand}, {on(8, 64, 0, 0), api.ErrCommand},
			{on(8, 96, 0, 64), api.ErrFull}, {on(8, 96, 32, 0), api.ErrFull}, {on(8, 32, 0, 0), api.ErrFull}, {on(8, 96, 1, 0), api.ErrFull},
			{on(8, 100, 0, 0), api.ErrFull}, {on(9, 96, 0, 0), api.ErrCommand}, {on(-1, 96, 0, 0), api.ErrCommand}, {on(-1, 96, 0, 64), api.ErrFull},
		} {
			p := start(t, x.q, full(8, 104))
			if e := p.q.Put(p.m, c); e != x.want {
				t.Errorf("%v: Put(%v): %d, want %d", x.q, c, e, x.want)
			}
			if n, e := p.q.Fill(p.m, c, nth(1)); n != 0 || e != x.want {
				t.Errorf("%v: Fill(%v): %d, %d, want %d", x.q, c, n, e, x.want)
			}
			p.agree(t)
		}
	}
}

func TestWindowsThatTheMemoryDoesNotHold(t *testing.T) { // P17.2, P17.3
	b := full(8, 104)
	for _, w := range []api.Window{
		win(9, 96), win(8, 128), win(104, 64), win(105, 64), win(0, 1024*32), win(-1, 64), win(-8, 96), win(-96, 96), win(math.MinInt, 64), win(math.MaxInt, 64),
		win(math.MaxInt-31, 64), win(math.MaxInt-63, 64), win(1<<40, 64), win(1<<17, 64), win(1<<62, 64),
	} {
		p := start(t, queue.Queue{Window: w}, b)
		if e := p.q.Put(p.m, nth(1)); e != api.ErrUnmapped {
			t.Errorf("%v: Put: %d", w, e)
		}
		if n, e := p.q.Fill(p.m, nth(1), nth(2)); n != 0 || e != api.ErrUnmapped {
			t.Errorf("%v: Fill: %d, %d", w, n, e)
		}
		p.agree(t)
		p.setWrite(t, 32)
		if c, e := p.q.Head(p.m); c != (api.Command{}) || e != api.ErrUnmapped {
			t.Errorf("%v: Head: %v, %d", w, c, e)
		}
		if l := all(p.q, p.m); !slices.Equal(l, []load{{api.Command{}, api.ErrUnmapped}}) || p.q.Wrong(p.m) != 1 {
			t.Errorf("%v: Each: %v, Wrong: %d", w, l, p.q.Wrong(p.m))
		}
		p.pass(t)
	}
}

func TestFill(t *testing.T) { // P17.2
	one, two, wrong := nth(1), nth(2), api.Command{Op: api.Sync, Coll: 1}
	for _, x := range []struct {
		q    queue.Queue
		cs   []api.Command
		n    int
		want api.Errno
	}{
		{on(8, 128, 0, 0), nil, 0, api.OK}, {on(8, 128, 0, 0), []api.Command{}, 0, api.OK}, {on(8, 128, 0, 96), nil, 0, api.OK}, {on(8, 128, 1, 0), nil, 0, api.OK},
		{on(8, 5, 0, 0), nil, 0, api.OK}, {on(-1, 96, 0, 0), nil, 0, api.OK},
		{on(8, 128, 0, 0), []api.Command{one}, 1, api.OK}, {on(8, 128, 0, 0), []api.Command{one, two, one}, 3, api.OK},
		{on(8, 128, 0, 0), []api.Command{one, two, one, two}, 3, api.ErrFull}, {on(8, 128, 0, 0), []api.Command{one, two, one, wrong}, 3, api.ErrFull},
		{on(8, 128, 0, 0), []api.Command{one, wrong, two}, 1, api.ErrCommand}, {on(8, 128, 0, 0), []api.Command{wrong, one}, 0, api.ErrCommand},
		{on(8, 128, 0, 0), []api.Command{one, two, wrong}, 2, api.ErrCommand}, {on(8, 128, 0, 0), []api.Command{one, wrong, wrong, two, two, two}, 1, api.ErrCommand},
		{on(8, 128, 96, 64), []api.Command{one}, 0, api.ErrFull}, {on(8, 128, 96, 64), []api.Command{wrong}, 0, api.ErrFull},
		{on(8, 128, 64, 96), []api.Command{one, two, one}, 2, api.ErrFull}, {on(8, 128, 64, 96), []api.Command{one, two}, 2, api.OK},
		{on(8, 128, 96, 96), []api.Command{one, two, two}, 3, api.OK}, {on(8, 32, 0, 0), []api.Command{one}, 0, api.ErrFull},
		{on(90, 128, 0, 0), []api.Command{one, two}, 0, api.ErrUnmapped}, {on(8, 128, 0, 33), []api.Command{one}, 0, api.ErrFull},
	} {
		p := start(t, x.q, full(8, 140))
		if n, e := p.q.Fill(p.m, x.cs...); n != x.n || e != x.want {
			t.Errorf("%v: Fill(%v): %d, %d, want %d, %d", x.q, x.cs, n, e, x.n, x.want)
		}
		start(t, x.q, full(8, 140)).fill(t, x.cs...)
	}
}

func TestFillAddsToWhatWaits(t *testing.T) { // P17.2
	p := start(t, on(0, 160, 96, 96), make([]byte, 160))
	p.fill(t, nth(1))
	p.fill(t, nth(2), nth(3))
	p.pass(t)
	p.fill(t, nth(4), nth(5), nth(6))
	if l := all(p.q, p.m); !slices.Equal(l, []load{{nth(2), 0}, {nth(3), 0}, {nth(4), 0}, {nth(5), 0}}) {
		t.Errorf("Each: %v", l)
	}
}

func TestHeadAndPass(t *testing.T) { // P17.3
	p := start(t, on(4, 96, 64, 32), full(4, 100))
	for _, k := range []int{2, 0} {
		if c, e := p.q.Head(p.m); c != nth(k) || e != api.OK {
			t.Errorf("Head: %v, %d, want %v", c, e, nth(k))
		}
		p.pass(t)
	}
	if c, e := p.q.Head(p.m); c != (api.Command{}) || e != api.ErrEmpty {
		t.Errorf("Head of nothing: %v, %d", c, e)
	}
	if e := p.q.Pass(); e != api.ErrEmpty || p.q != on(4, 96, 32, 32) {
		t.Errorf("Pass of nothing: %d, %v", e, p.q)
	}
}

func TestPassOfWhatIsNoCommand(t *testing.T) { // P17.3
	p := start(t, on(0, 96, 0, 64), make([]byte, 96))
	p.poke(32, byte(api.Sync))
	if c, e := p.q.Head(p.m); c != (api.Command{}) || e != api.ErrCommand {
		t.Errorf("Head: %v, %d", c, e)
	}
	p.pass(t)
	if c, e := p.q.Head(p.m); c != (api.Command{Op: api.Sync}) || e != api.OK {
		t.Errorf("Head: %v, %d", c, e)
	}
	p.pass(t)
	p.pass(t)
}

func TestHeadOfQueuesWithoutEntries(t *testing.T) { // P17.3, W3
	b := full(0, 128)
	for _, q := range []queue.Queue{
		on(0, 96, 0, 0), on(0, 96, 64, 64), on(0, 96, 0, 33), on(0, 96, 1, 0), on(0, 96, 96, 0), on(0, 96, 0, 96), on(0, 96, -32, 0), on(0, 100, 0, 32), on(0, 0, 0, 0),
		on(-1, 96, 0, 0), on(200, 96, 32, 32), on(0, 32, 0, 0), on(0, 96, math.MinInt, math.MaxInt), on(0, 96, math.MaxInt, math.MinInt),
	} {
		m := create(t, b)
		if c, e := q.Head(m); c != (api.Command{}) || e != api.ErrEmpty {
			t.Errorf("%v: Head: %v, %d", q, c, e)
		}
		if l := all(q, m); len(l) != 0 || q.Wrong(m) != 0 || q.Left() != 0 {
			t.Errorf("%v: Each: %v, Wrong: %d, Left: %d", q, l, q.Wrong(m), q.Left())
		}
		before := q
		if e := q.Pass(); e != api.ErrEmpty || q != before {
			t.Errorf("%v: Pass: %d, %v", before, e, q)
		}
	}
}

func TestEachLeftEarly(t *testing.T) { // P17.3, W8
	m := create(t, full(2, 2+32*6))
	q := on(2, 32*6, 32*4, 32*3)
	want := []load{{nth(4), 0}, {nth(5), 0}, {nth(0), 0}, {nth(1), 0}, {nth(2), 0}}
	seq := q.Each(m)
	for n := range len(want) + 1 {
		var got []load
		for c, e := range seq {
			if len(got) == n {
				break
			}
			got = append(got, load{c, e})
		}
		if !slices.Equal(got, want[:n]) {
			t.Errorf("the first %d: %v", n, got)
		}
	}
	calls := 0
	seq(func(api.Command, api.Errno) bool {
		calls++
		return calls < 3
	})
	if calls != 3 {
		t.Errorf("%d calls, want 3", calls)
	}
}

func TestEachAgainAndNested(t *testing.T) { // P17.3, W8
	m := create(t, full(0, 96))
	seq := on(0, 96, 32, 0).Each(m)
	var got []api.Command
	for a := range seq {
		for b := range seq {
			got = append(got, a, b)
		}
	}
	one, two := nth(1), nth(2)
	if !slices.Equal(got, []api.Command{one, one, one, two, two, one, two, two}) {
		t.Errorf("nested: %v", got)
	}
}

func TestEachGoesOnAfterErrors(t *testing.T) { // P17.3
	b := full(0, 128)
	b[0], b[64+31], b[96] = 0, 1, 0xff
	p := start(t, on(0, 128, 0, 96), b)
	p.agree(t)
	none := load{e: api.ErrCommand}
	if l := all(p.q, p.m); !slices.Equal(l, []load{none, {nth(1), 0}, none}) || p.q.Wrong(p.m) != 2 {
		t.Errorf("Each: %v, Wrong: %d", l, p.q.Wrong(p.m))
	}
	if e := p.q.SetWrite(0); e != api.OK || p.q.Wrong(p.m) != 0 {
		t.Errorf("SetWrite: %d, Wrong: %d", e, p.q.Wrong(p.m))
	}
}

func TestEachReadsTheMemoryLate(t *testing.T) { // P17.3, W8
	p := start(t, on(0, 96, 0, 64), make([]byte, 96))
	seq := p.q.Each(p.m)
	p.poke(0, byte(api.Sync))
	p.poke(32, byte(api.Int))
	var got []load
	for c, e := range seq {
		got = append(got, load{c, e})
	}
	if !slices.Equal(got, []load{{api.Command{Op: api.Sync}, 0}, {api.Command{Op: api.Int}, 0}}) {
		t.Errorf("Each: %v", got)
	}
}

func TestLoopThatPasses(t *testing.T) { // P17.3
	m := create(t, full(0, 128))
	q := on(0, 128, 64, 32)
	var got []api.Command
	for c := range q.Each(m) {
		got = append(got, c)
		if e := q.Pass(); e != api.OK {
			t.Errorf("Pass: %d", e)
		}
	}
	if !slices.Equal(got, []api.Command{nth(2), nth(3), nth(0)}) || q != on(0, 128, 32, 32) {
		t.Errorf("%v, %v", got, q)
	}
}

func TestSetWrite(t *testing.T) { // P17.3
	for n := 0; n <= 5; n++ {
		for _, read := range []int{0, 32, 33, -32, 32 * n, math.MinInt} {
			for at := -70; at <= 32*n+70; at++ {
				q := on(-7, 32*n, read, 999)
				e := q.SetWrite(at)
				want, f := on(-7, 32*n, read, at), api.OK
				if at < 0 || at >= 32*n || at%32 != 0 {
					want.Write, f = 999, api.ErrArg
				}
				if q != want || e != f {
					t.Errorf("%d entries: SetWrite(%d): %d, %v", n, at, e, q)
				}
			}
		}
	}
	for _, at := range ends() {
		q := on(0, 1<<15, 0, 64)
		e := q.SetWrite(at)
		if right := 0 <= at && at < 1<<15 && at%32 == 0; right != (e == api.OK) || right != (q.Write == at) && at != 64 {
			t.Errorf("SetWrite(%d): %d, %v", at, e, q)
		}
	}
}

func TestOneEntry(t *testing.T) { // P17.1 to P17.3
	p := start(t, on(1, 32, 0, 0), full(1, 40))
	p.put(t, nth(9))
	p.fill(t, nth(9))
	p.pass(t)
	p.setWrite(t, 0)
	p.setWrite(t, 32)
}

func TestGreatestQueue(t *testing.T) { // P17.1 to P17.3
	const size = 32 * 1024
	m := create(t, make([]byte, api.MaxMem))
	q, e := queue.New(win(api.MaxMem-size, size))
	if q.Room() != 1023 || e != api.OK {
		t.Fatalf("New: %v, %d", q, e)
	}
	q.Read, q.Write = 32*700, 32*700
	cs := make([]api.Command, 1024)
	for k := range cs {
		cs[k] = nth(k)
	}
	if n, e := q.Fill(m, cs...); n != 1023 || e != api.ErrFull || q.Left() != 1023 || q.Room() != 0 || q.Write != 32*699 {
		t.Fatalf("Fill: %d, %d, %v", n, e, q)
	}
	k := 0
	for c, e := range q.Each(m) {
		if c != cs[k] || e != api.OK {
			t.Fatalf("Each: %v, %d, want %v", c, e, cs[k])
		}
		k++
	}
	if k != 1023 || q.Wrong(m) != 0 {
		t.Errorf("Each: %d, Wrong: %d", k, q.Wrong(m))
	}
	for k := range 1023 {
		if c, e := q.Head(m); c != cs[k] || e != api.OK || q.Pass() != api.OK {
			t.Fatalf("Head: %v, %d, want %v", c, e, cs[k])
		}
	}
	if e := q.Pass(); e != api.ErrEmpty || q.Room() != 1023 {
		t.Errorf("Pass: %d, %v", e, q)
	}
}

func TestQueuesInOneMemory(t *testing.T) { // P17.2, W2
	m := create(t, make([]byte, 128))
	a, _ := queue.New(win(0, 64))
	b, _ := queue.New(win(64, 64))
	a.Put(m, nth(1))
	b.Put(m, nth(2))
	c := a
	c.Pass()
	if got, e := a.Head(m); got != nth(1) || e != api.OK || c.Left() != 0 {
		t.Errorf("Head: %v, %d", got, e)
	}
	if got, e := b.Head(m); got != nth(2) || e != api.OK {
		t.Errorf("Head: %v, %d", got, e)
	}
}

func TestNilQueue(t *testing.T) { // W1
	m := create(t, full(0, 64))
	var q *queue.Queue
	if e := q.Put(m, nth(0)); e != api.ErrFull {
		t.Errorf("Put: %d", e)
	}
	if n, e := q.Fill(m, nth(0), nth(1)); n != 0 || e != api.ErrFull {
		t.Errorf("Fill: %d, %d", n, e)
	}
	if n, e := q.Fill(m); n != 0 || e != api.OK {
		t.Errorf("Fill of nothing: %d, %d", n, e)
	}
	if e := q.Pass(); e != api.ErrEmpty {
		t.Errorf("Pass: %d", e)
	}
	if e := q.SetWrite(0); e != api.ErrArg {
		t.Errorf("SetWrite: %d", e)
	}
	keeps(t, m, full(0, 64))
}

// some returns a queue for a memory of size bytes, right or not.
func some(size int, next func(n int) int) queue.Queue {
	n := next(8)
	q := on(next(9), 32*n, 32*next(n+1), 32*next(n+1))
	switch next(6) {
	case 0:
		q.Window.At = size - 32*n + next(5) - 2
	case 1:
		q.Read += next(5) - 2
	case 2:
		q.Window.Size += next(5) - 2
	}
	return q
}

func TestRowsOfCalls(t *testing.T) { // P17.1 to P17.3
	const size = 260
	for seed := range 60 {
		next := roll(seed)
		p := start(t, some(size, next), make([]byte, size))
		for range 400 {
			c := nth(next(1000))
			if next(8) == 0 {
				c = bad()[next(len(bad()))]
			}
			switch next(20) {
			case 0:
				p.set(some(size, next))
				p.agree(t)
			case 1, 2, 3:
				p.setWrite(t, 32*next(8))
			case 4:
				p.setWrite(t, next(300)-20)
			case 5, 6:
				p.poke(next(size), byte(next(16)))
				p.agree(t)
			case 7, 8, 9:
				cs := []api.Command{nth(1), c, nth(next(9)), nth(3)}
				p.fill(t, cs[:next(5)]...)
			case 10, 11, 12, 13:
				p.pass(t)
			default:
				p.put(t, c)
			}
		}
	}
}

func TestMemoryWithoutBytes(t *testing.T) { // P17.2, P17.3
	m := create(t, nil)
	q := on(0, 64, 0, 0)
	if e := q.Put(m, nth(1)); e != api.ErrUnmapped || q.Write != 0 {
		t.Errorf("Put: %d, %v", e, q)
	}
	q.Write = 32
	if c, e := q.Head(m); c != (api.Command{}) || e != api.ErrUnmapped {
		t.Errorf("Head: %v, %d", c, e)
	}
}
