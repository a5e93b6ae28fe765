package cmd

import (
	"iter"

	"crier/api"
)

// field is the number of a field: a text has the fields in the order of their numbers.
type field int

const (
	device field = iota
	event
	number
	taker // the Number of Movall, which is located elsewhere
	coll
	target
	bits
	addr
	valid
	fields // how many there are
)

// unit is what Addr is a multiple of.
const unit = 256

// numbers has the number in each field, and 0 where a command does not have the field.
type numbers [fields]int

// place is where a field is located in the words.
type place struct{ word, first, bits int }

func (f field) place() place {
	return [fields]place{
		device: {0, 32, 32},
		event:  {1, 0, 32},
		number: {1, 32, 32},
		taker:  {3, 16, 16},
		coll:   {2, 0, 16},
		target: {2, 16, 16},
		bits:   {1, 0, 5},
		addr:   {2, 8, 40},
		valid:  {2, 63, 1},
	}[f]
}

// most returns the greatest number that fits.
func (p place) most() int { return 1<<p.bits - 1 }

// kind is what the commands with the same Op have in common.
type kind struct {
	op   api.Op
	name string
	has  int // bit f is 1 if they have the field f
}

func kinds() [12]kind {
	const ofEvent = 1<<device | 1<<event
	return [12]kind{
		{api.Movi, "movi", ofEvent | 1<<coll},
		{api.Int, "int", ofEvent},
		{api.ClearOp, "clear", ofEvent},
		{api.Sync, "sync", 1 << target},
		{api.Mapd, "mapd", 1<<device | 1<<bits | 1<<addr | 1<<valid},
		{api.Mapc, "mapc", 1<<coll | 1<<target | 1<<valid},
		{api.Mapti, "mapti", ofEvent | 1<<number | 1<<coll},
		{api.Mapi, "mapi", ofEvent | 1<<coll},
		{api.Inv, "inv", ofEvent},
		{api.InvallOp, "invall", 1 << coll},
		{api.Movall, "movall", 1<<taker | 1<<target},
		{api.Discard, "discard", ofEvent},
	}
}

// byOp returns the kind of the commands with an Op, if there are such commands.
func byOp(op api.Op) (kind, bool) {
	for _, k := range kinds() {
		if k.op == op {
			return k, true
		}
	}
	return kind{}, false
}

// byName returns the kind of the commands with a name, if there are such commands.
func byName(name string) (kind, bool) {
	for _, k := range kinds() {
		if k.name == name {
			return k, true
		}
	}
	return kind{}, false
}

// all yields the fields of the commands of a kind, in order.
func (k kind) all() iter.Seq[field] {
	return func(yield func(field) bool) {
		for f := range fields {
			if k.has>>f&1 == 1 && !yield(f) {
				return
			}
		}
	}
}

// split returns the kind of a command and the numbers in its fields, if the command is valid.
func split(c api.Command) (kind, numbers, bool) {
	k, is := byOp(c.Op)
	every := numbersOf(c)
	var own numbers
	for f := range k.all() {
		own[f] = every[f]
		is = is && own[f] >= 0 && own[f] <= f.place().most()
	}
	// What its fields do not tell is another field, or a part of Addr.
	return k, own, is && join(k, own) == c
}

// numbersOf returns the numbers that a command has for all fields, whether they are its own or not.
func numbersOf(c api.Command) numbers {
	ns := numbers{
		device: c.Device,
		event:  c.Event,
		number: c.Number,
		taker:  c.Number,
		coll:   c.Coll,
		target: c.Target,
		bits:   c.Bits,
		addr:   c.Addr / unit,
	}
	if c.Valid {
		ns[valid] = 1
	}
	return ns
}

// join returns the command with numbers in its fields.
func join(k kind, ns numbers) api.Command {
	return api.Command{
		Op:     k.op,
		Device: ns[device],
		Event:  ns[event],
		Number: ns[number] + ns[taker], // no command has both
		Coll:   ns[coll],
		Target: ns[target],
		Bits:   ns[bits],
		Addr:   ns[addr] * unit,
		Valid:  ns[valid] == 1,
	}
}
