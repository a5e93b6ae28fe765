package book_test

import (
	"iter"
	"maps"
	"math"
	"slices"
	"strconv"
	"testing"

	"crier/book"
)

type id int

type name string

type pair struct {
	a int
	b string
}

// entry is a key and its value, as a loop yields them.
type entry[K book.Key, V comparable] struct {
	k K
	v V
}

// numbers lists keys beside which something may change, in increasing order.
func numbers() []int {
	return []int{math.MinInt, math.MinInt + 1, -1 << 32, -2, -1, 0, 1, 2, 1 << 32, 1<<32 + 1, math.MaxInt - 1, math.MaxInt}
}

// texts lists keys in bytewise order, which is neither that of any language nor that of their lengths.
func texts() []string {
	return []string{"", "\x00", "\x00\x00", "\x01", " ", "10", "9", "A", "Z", "a", "a\x00", "a\x00b", "aa", "ab", "b", "z", "\x7f",
		"\x80", "\xc3", "\u00e9", "\u00e9a", "\uffee", "\U0001f600", "\xff", "\xff\xff"}
}

func collect[K book.Key, V comparable](seq iter.Seq2[K, V]) []entry[K, V] {
	var l []entry[K, V]
	for k, v := range seq {
		l = append(l, entry[K, V]{k, v})
	}
	return l
}

func of[K book.Key, V comparable](l ...entry[K, V]) *book.Book[K, V] {
	b := book.New[K, V]()
	for _, e := range l {
		b.Put(e.k, e.v)
	}
	return b
}

// holds reports where a book's answers differ from those for the entries want, which are in the order of their keys.
func holds[K book.Key, V comparable](t *testing.T, b *book.Book[K, V], want ...entry[K, V]) {
	t.Helper()
	if got := collect(b.All()); !slices.Equal(got, want) {
		t.Fatalf("All: %v, want %v", got, want)
	}
	if b.Len() != len(want) {
		t.Errorf("Len: %d, want %d", b.Len(), len(want))
	}
	keys := b.Keys()
	if len(keys) != len(want) {
		t.Fatalf("Keys: %v, want those of %v", keys, want)
	}
	for i, e := range want {
		if keys[i] != e.k {
			t.Errorf("Keys: %v, want those of %v", keys, want)
		}
		if v, is := b.Get(e.k); v != e.v || !is || !b.Has(e.k) {
			t.Errorf("Get(%v): %v, %v, want %v", e.k, v, is, e.v)
		}
	}
}

// lacks reports an answer for a key that a book does not have.
func lacks[K book.Key, V comparable](t *testing.T, b *book.Book[K, V], k K) {
	t.Helper()
	var none V
	if v, is := b.Get(k); v != none || is || b.Has(k) {
		t.Errorf("Get(%v): %v, %v", k, v, is)
	}
	n := b.Len()
	if v, is := b.Take(k); v != none || is || b.Len() != n {
		t.Errorf("Take(%v): %v, %v", k, v, is)
	}
}

// shuffled lists the indices below n in another order, which depends on seed.
func shuffled(n, seed int) []int {
	l := make([]int, n)
	for i := range l {
		l[i] = i
	}
	r := roll(seed)
	for i := range l {
		j := r(n)
		l[i], l[j] = l[j], l[i]
	}
	return l
}

// roll returns a function that returns numbers below n, the same ones in each run of the tests.
func roll(seed int) func(n int) int {
	x := uint64(seed)
	return func(n int) int {
		x = x*6364136223846793005 + 1442695040888963407
		return int(x>>33) % n
	}
}

func TestExample(t *testing.T) { // P3.1 to P3.3
	b := book.New[int, string]()
	if !b.Put(3, "c") || !b.Put(1, "a") || b.Put(3, "b") {
		t.Error("Put: not true, true and false")
	}
	holds(t, b, entry[int, string]{1, "a"}, entry[int, string]{3, "b"})
	lacks(t, b, 2)
	holds(t, book.Turned(b), entry[string, int]{"a", 1}, entry[string, int]{"b", 3})
	if got := collect(b.From(2)); !slices.Equal(got, []entry[int, string]{{3, "b"}}) {
		t.Error("From(2):", got)
	}
}

func TestNewIsEmpty(t *testing.T) { // P3.1
	b := book.New[int, string]()
	holds(t, b)
	for _, k := range numbers() {
		lacks(t, b, k)
		if got := collect(b.From(k)); got != nil {
			t.Errorf("From(%d): %v", k, got)
		}
	}
	if k, is := b.Where(""); k != 0 || is || b.Drop("") != 0 {
		t.Error("Where:", k, is)
	}
	holds(t, b.Copy())
	holds(t, book.Turned(b))
	c := book.New[int, string]()
	c.Put(1, "a")
	holds(t, b)
	s := book.New[string, pair]()
	holds(t, s)
	for _, k := range texts() {
		lacks(t, s, k)
	}
}

func TestZeroKeysAndZeroValues(t *testing.T) { // P3.1: a zero value that was put differs from none
	b := book.New[int, int]()
	if !b.Put(0, 0) || b.Put(0, 0) {
		t.Error("Put: not true and then false")
	}
	holds(t, b, entry[int, int]{0, 0})
	if k, is := b.Where(0); k != 0 || !is {
		t.Error("Where(0):", k, is)
	}
	if v, is := b.Take(0); v != 0 || !is {
		t.Error("Take(0):", v, is)
	}
	lacks(t, b, 0)
	s := of(entry[string, string]{"", ""})
	holds(t, s, entry[string, string]{"", ""})
	if k, is := s.Where(""); k != "" || !is {
		t.Error("Where of an empty string:", k, is)
	}
	if v, is := s.Take(""); v != "" || !is || s.Has("") {
		t.Error("Take of an empty string:", v, is)
	}
}

func TestPutReplaces(t *testing.T) { // P3.1
	b := of(entry[id, string]{1, "a"}, entry[id, string]{2, "b"}, entry[id, string]{3, "c"})
	for _, v := range []string{"x", "x", "", "y"} {
		if b.Put(2, v) {
			t.Error("Put of a key that is there: true")
		}
		holds(t, b, entry[id, string]{1, "a"}, entry[id, string]{2, v}, entry[id, string]{3, "c"})
	}
	b.Take(2)
	if !b.Put(2, "z") {
		t.Error("Put of a key that was taken: false")
	}
	holds(t, b, entry[id, string]{1, "a"}, entry[id, string]{2, "z"}, entry[id, string]{3, "c"})
}

// comesAndGoes puts and takes keys, which increase, in another order, and asks the book at each step.
func comesAndGoes[K book.Key](t *testing.T, keys []K, seed int) {
	t.Helper()
	b := book.New[K, int]()
	there := make([]bool, len(keys))
	check := func() {
		t.Helper()
		var want []entry[K, int]
		for i, k := range keys {
			if there[i] {
				want = append(want, entry[K, int]{k, i})
			} else {
				lacks(t, b, k)
			}
		}
		holds(t, b, want...)
	}
	for _, i := range shuffled(len(keys), seed) {
		if !b.Put(keys[i], -1) || b.Put(keys[i], i) {
			t.Errorf("Put(%v): not true and then false", keys[i])
		}
		there[i] = true
		check()
	}
	for _, i := range shuffled(len(keys), seed+1) {
		if v, is := b.Take(keys[i]); v != i || !is {
			t.Errorf("Take(%v): %d, %v, want %d", keys[i], v, is, i)
		}
		there[i] = false
		check()
	}
}

func TestKeysIncrease(t *testing.T) { // P3.1
	var ids []id
	for _, k := range numbers() {
		ids = append(ids, id(k))
	}
	var names []name
	for _, k := range texts() {
		names = append(names, name(k))
	}
	for seed := range 5 {
		comesAndGoes(t, numbers(), seed)
		comesAndGoes(t, ids, seed)
		comesAndGoes(t, texts(), seed)
		comesAndGoes(t, names, seed)
	}
}

func TestKeysAreNew(t *testing.T) { // P3.1, W6
	b := of(entry[int, int]{1, 10}, entry[int, int]{2, 20})
	keys := b.Keys()
	b.Put(0, 0)
	if !slices.Equal(keys, []int{1, 2}) {
		t.Error("Keys changed with the book:", keys)
	}
	keys[0], keys[1] = 9, 8
	keys = append(keys, 7)
	holds(t, b, entry[int, int]{0, 0}, entry[int, int]{1, 10}, entry[int, int]{2, 20})
}

func TestFrom(t *testing.T) { // P3.2
	for _, c := range []struct{ keys, want []int }{
		{[]int{3, 5, 8}, []int{3, 5, 8}},
		{[]int{0}, []int{0}},
		{nil, nil},
		{numbers(), numbers()},
		{[]int{math.MaxInt, math.MinInt}, []int{math.MinInt, math.MaxInt}},
	} {
		b := book.New[int, int]()
		for _, k := range c.keys {
			b.Put(k, k/2)
		}
		for _, from := range append(numbers(), 3, 4, 5, 6, 7, 8, 9) {
			var want []entry[int, int]
			for _, k := range c.want {
				if k >= from {
					want = append(want, entry[int, int]{k, k / 2})
				}
			}
			if got := collect(b.From(from)); !slices.Equal(got, want) {
				t.Errorf("From(%d) of %v: %v, want %v", from, c.keys, got, want)
			}
		}
	}
}

func TestFromTexts(t *testing.T) { // P3.2
	b := book.New[string, int]()
	for _, i := range shuffled(len(texts()), 3) {
		b.Put(texts()[i], i)
	}
	for i, from := range texts() {
		for _, c := range []struct {
			from  string
			first int
		}{{from, i}, {from + "\x00\x00\x00", -1}} {
			first := c.first
			if first < 0 {
				for first = i + 1; first < len(texts()) && texts()[first] < c.from; first++ {
				}
			}
			var want []entry[string, int]
			for j := first; j < len(texts()); j++ {
				want = append(want, entry[string, int]{texts()[j], j})
			}
			if got := collect(b.From(c.from)); !slices.Equal(got, want) {
				t.Errorf("From(%q): %v, want %v", c.from, got, want)
			}
		}
	}
}

func four() *book.Book[int, string] {
	return of(entry[int, string]{3, "c"}, entry[int, string]{4, "d"}, entry[int, string]{8, "h"}, entry[int, string]{200, "z"})
}

// TestLoopsOfTheTimeOfTheCall changes a book between the call and the loop, and between two loops.
func TestLoopsOfTheTimeOfTheCall(t *testing.T) { // P3.2, W8
	b := four()
	all, from := b.All(), b.From(4)
	change := []func(){
		func() { b.Put(8, "new") },
		func() { b.Put(5, "e") },
		func() { b.Put(0, "first") },
		func() { b.Take(4) },
		func() { b.Drop("z") },
		func() {
			for _, k := range b.Keys() {
				b.Take(k)
			}
		},
	}
	for _, f := range change {
		f()
		if got := collect(all); !slices.Equal(got, []entry[int, string]{{3, "c"}, {4, "d"}, {8, "h"}, {200, "z"}}) {
			t.Error("All:", got)
		}
		if got := collect(from); !slices.Equal(got, []entry[int, string]{{4, "d"}, {8, "h"}, {200, "z"}}) {
			t.Error("From:", got)
		}
	}
	holds(t, b)
	none := b.All()
	b.Put(1, "a")
	if got := collect(none); got != nil {
		t.Error("All of an empty book:", got)
	}
}

func TestBooksChangedWithinLoops(t *testing.T) { // P3.2, W8
	b := four()
	var got []entry[int, string]
	for k, v := range b.All() {
		got = append(got, entry[int, string]{k, v})
		b.Take(k)
		b.Put(8, "other")
		b.Drop("z")
		b.Put(k+1000, v)
	}
	if !slices.Equal(got, []entry[int, string]{{3, "c"}, {4, "d"}, {8, "h"}, {200, "z"}}) {
		t.Error("All:", got)
	}
	holds(t, b, entry[int, string]{8, "other"}, entry[int, string]{1003, "c"}, entry[int, string]{1004, "d"},
		entry[int, string]{1008, "h"}, entry[int, string]{1200, "z"})
	got = nil
	for k, v := range b.From(1004) {
		got = append(got, entry[int, string]{k, v})
		b.Put(k+1, "after")
		b.Put(1200, "late")
		b.Take(1008)
	}
	if !slices.Equal(got, []entry[int, string]{{1004, "d"}, {1008, "h"}, {1200, "z"}}) {
		t.Error("From:", got)
	}
}

func TestLoopsLeftEarlyAndGoneThroughAgain(t *testing.T) { // P3.2, W8
	b := four()
	for _, c := range []struct {
		seq  iter.Seq2[int, string]
		want []int
	}{{b.All(), []int{3, 4, 8, 200}}, {b.From(4), []int{4, 8, 200}}, {b.From(5), []int{8, 200}}, {b.From(201), nil}} {
		for n := 1; n < 7; n++ {
			var got []int
			for k := range c.seq {
				if got = append(got, k); len(got) == n {
					break
				}
			}
			if want := c.want[:min(n, len(c.want))]; !slices.Equal(got, want) {
				t.Errorf("left after %d: %v, want %v", n, got, want)
			}
		}
		calls := 0
		c.seq(func(int, string) bool { calls++; return false })
		if calls != min(1, len(c.want)) {
			t.Errorf("%d calls of a yield that returns false", calls)
		}
	}
	holds(t, b, entry[int, string]{3, "c"}, entry[int, string]{4, "d"}, entry[int, string]{8, "h"}, entry[int, string]{200, "z"})
}

func TestLoopsWithinOneAnother(t *testing.T) { // P3.2, W8
	all := of(entry[int, int]{1, 10}, entry[int, int]{2, 20}, entry[int, int]{5, 50}).All()
	var got []int
	for a := range all {
		for _, b := range all {
			got = append(got, a+b)
		}
	}
	if !slices.Equal(got, []int{11, 21, 51, 12, 22, 52, 15, 25, 55}) {
		t.Error(got)
	}
}

func TestWhere(t *testing.T) { // P3.3
	b := of(entry[int, string]{7, "a"}, entry[int, string]{-7, "b"}, entry[int, string]{math.MinInt, "c"},
		entry[int, string]{1, "a"}, entry[int, string]{math.MaxInt, "a"}, entry[int, string]{5, ""}, entry[int, string]{9, "b"})
	where := func(x string, want int, found bool) {
		t.Helper()
		if k, is := b.Where(x); k != want || is != found {
			t.Errorf("Where(%q): %d, %v, want %d, %v", x, k, is, want, found)
		}
	}
	where("a", 1, true)
	where("b", -7, true)
	where("c", math.MinInt, true)
	where("", 5, true)
	where("d", 0, false)
	where("A", 0, false)
	b.Take(1)
	where("a", 7, true)
	b.Put(7, "c")
	where("a", math.MaxInt, true)
	b.Take(math.MaxInt)
	where("a", 0, false)
	if b.Len() != 5 {
		t.Error("Where changed the book:", b.Keys())
	}
	n := of(entry[name, int]{"z", 1}, entry[name, int]{"aa", 1}, entry[name, int]{"a", 2})
	if k, is := n.Where(1); k != "aa" || !is {
		t.Errorf("Where(1): %q, %v", k, is)
	}
	if k, is := n.Where(3); k != "" || is {
		t.Errorf("Where(3): %q, %v", k, is)
	}
}

func TestDrop(t *testing.T) { // P3.3
	b := book.New[int, string]()
	for i, v := range []string{"a", "a", "b", "a", "", "a"} {
		b.Put(i, v)
	}
	for _, c := range []struct {
		drop string
		n    int
		keys []int
	}{
		{"x", 0, []int{0, 1, 2, 3, 4, 5}},
		{"a", 4, []int{2, 4}},
		{"a", 0, []int{2, 4}},
		{"", 1, []int{2}},
		{"", 0, []int{2}},
		{"b", 1, nil},
		{"b", 0, nil},
	} {
		if n := b.Drop(c.drop); n != c.n || b.Len() != len(c.keys) || !slices.Equal(b.Keys(), c.keys) {
			t.Errorf("Drop(%q): %d, then %v, want %d, then %v", c.drop, n, b.Keys(), c.n, c.keys)
		}
	}
	b.Put(3, "q")
	holds(t, b, entry[int, string]{3, "q"})
	lacks(t, b, 0)
}

func TestTurned(t *testing.T) { // P3.3
	b := of(entry[int, string]{5, "b"}, entry[int, string]{-2, "a"}, entry[int, string]{9, "a"}, entry[int, string]{-8, "b"},
		entry[int, string]{math.MaxInt, "c"}, entry[int, string]{math.MinInt, ""}, entry[int, string]{0, "b"})
	u := book.Turned(b)
	holds(t, u, entry[string, int]{"", math.MinInt}, entry[string, int]{"a", -2}, entry[string, int]{"b", -8},
		entry[string, int]{"c", math.MaxInt})
	holds(t, book.Turned(u), entry[int, string]{math.MinInt, ""}, entry[int, string]{-8, "b"}, entry[int, string]{-2, "a"},
		entry[int, string]{math.MaxInt, "c"})
	u.Put("z", 1)
	u.Put("a", 100)
	u.Take("b")
	if v, is := b.Get(-2); v != "a" || !is || b.Len() != 7 || !b.Has(-8) {
		t.Error("a change of the new book changed the old one")
	}
	b.Take(math.MaxInt)
	b.Put(math.MinInt, "y")
	if k, is := u.Get("c"); k != math.MaxInt || !is || u.Has("y") || !u.Has("") {
		t.Error("a change of the old book changed the new one")
	}
	holds(t, book.Turned(of(entry[name, id]{"b", -1}, entry[name, id]{"a", -1}, entry[name, id]{"", 4})),
		entry[id, name]{-1, "a"}, entry[id, name]{4, ""})
}

func TestCopyIsIndependent(t *testing.T) { // P3.3, W6
	b := four()
	c := b.Copy()
	d := c.Copy()
	c.Put(3, "other")
	c.Take(4)
	c.Put(500, "more")
	b.Put(1, "a")
	b.Drop("h")
	holds(t, b, entry[int, string]{1, "a"}, entry[int, string]{3, "c"}, entry[int, string]{4, "d"}, entry[int, string]{200, "z"})
	holds(t, c, entry[int, string]{3, "other"}, entry[int, string]{8, "h"}, entry[int, string]{200, "z"}, entry[int, string]{500, "more"})
	holds(t, d, entry[int, string]{3, "c"}, entry[int, string]{4, "d"}, entry[int, string]{8, "h"}, entry[int, string]{200, "z"})
	b.Put(201, "b")
	d.Put(201, "d")
	if v, _ := b.Get(201); v != "b" {
		t.Error("a key that was put into the copy is in the original:", v)
	}
}

func TestValuesOfManyTypes(t *testing.T) { // P3.1, P3.3
	s := of(entry[int, pair]{2, pair{1, "x"}}, entry[int, pair]{1, pair{1, "y"}}, entry[int, pair]{3, pair{1, "x"}})
	if k, is := s.Where(pair{1, "x"}); k != 2 || !is || s.Drop(pair{1, "x"}) != 2 {
		t.Error("structs:", k, is)
	}
	holds(t, s, entry[int, pair]{1, pair{1, "y"}})
	a := of(entry[string, [2]int]{"a", [2]int{1, 2}}, entry[string, [2]int]{"b", [2]int{2, 1}})
	if k, is := a.Where([2]int{2, 1}); k != "b" || !is {
		t.Error("arrays:", k, is)
	}
	x, y := 5, 5
	p := of(entry[int, *int]{1, &x}, entry[int, *int]{2, &y})
	if k, is := p.Where(&y); k != 2 || !is || p.Drop(&x) != 1 {
		t.Error("pointers:", k, is)
	}
	f := of(entry[int, float64]{1, math.NaN()}, entry[int, float64]{2, 0.5})
	if k, is := f.Where(math.NaN()); k != 0 || is || f.Drop(math.NaN()) != 0 || f.Len() != 2 {
		t.Error("a number that is not equal to itself:", k, is)
	}
}

// TestValuesThatCannotBeCompared has interfaces as values: comparing what is in them may panic.
func TestValuesThatCannotBeCompared(t *testing.T) { // P3.3, W1
	b := book.New[int, any]()
	b.Put(1, []int{1})
	b.Put(2, "two")
	b.Put(3, [1]any{[]int{1}})
	b.Put(4, nil)
	b.Put(5, "two")
	for _, x := range []any{[]int{1}, []int(nil), [1]any{[]int{1}}, func() {}, map[int]int{}, 7} {
		if k, is := b.Where(x); k != 0 || is {
			t.Error("Where:", k, is)
		}
		if n := b.Drop(x); n != 0 {
			t.Error("Drop:", n)
		}
	}
	if k, is := b.Where(nil); k != 4 || !is {
		t.Error("Where(nil):", k, is)
	}
	if n := b.Drop("two"); n != 2 || !slices.Equal(b.Keys(), []int{1, 3, 4}) {
		t.Error("Drop:", n, b.Keys())
	}
	if v, is := b.Take(1); !is || !slices.Equal(v.([]int), []int{1}) {
		t.Error("Take:", v, is)
	}
}

// TestAgainstMaps compares a book with a map through many changes.
func TestAgainstMaps(t *testing.T) { // P3.1 to P3.3
	for seed := range 20 {
		r := roll(seed)
		b, m := book.New[int, string](), map[int]string{}
		for range 400 {
			k, v := r(60)-30, strconv.Itoa(r(7))
			old, was := m[k]
			switch r(8) {
			case 0, 1, 2, 3:
				if b.Put(k, v) == was {
					t.Fatalf("Put(%d): %v", k, was)
				}
				m[k] = v
			case 4, 5:
				if got, is := b.Take(k); got != old || is != was {
					t.Fatalf("Take(%d): %q, %v, want %q, %v", k, got, is, old, was)
				}
				delete(m, k)
			case 6:
				agree(t, b.Copy(), m)
				b = b.Copy()
			default:
				n := len(m)
				maps.DeleteFunc(m, func(_ int, x string) bool { return x == v })
				if got := b.Drop(v); got != n-len(m) {
					t.Fatalf("Drop(%q): %d, want %d", v, got, n-len(m))
				}
			}
			agree(t, b, m)
		}
	}
}

// agree compares all answers of a book with those of a map.
func agree(t *testing.T, b *book.Book[int, string], m map[int]string) {
	t.Helper()
	var want []entry[int, string]
	turned := map[string]int{}
	for _, k := range slices.Sorted(maps.Keys(m)) {
		want = append(want, entry[int, string]{k, m[k]})
		if _, is := turned[m[k]]; !is {
			turned[m[k]] = k
		}
	}
	holds(t, b, want...)
	for v := range 8 {
		k, is := turned[strconv.Itoa(v)]
		if got, found := b.Where(strconv.Itoa(v)); got != k || found != is {
			t.Fatalf("Where(%d): %d, %v, want %d, %v", v, got, found, k, is)
		}
	}
	if got := maps.Collect(book.Turned(b).All()); !maps.Equal(got, turned) {
		t.Fatalf("Turned: %v, want %v", got, turned)
	}
}
