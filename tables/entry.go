package tables

import (
	"crier/api"
	"crier/mem"
)

const (
	entrySize = 8       // bytes
	validBit  = 1 << 63 // of an entry
	unit      = 256     // what the address of an event table is a multiple of
)

// field is a number that an entry contains if it is valid.
type field int

const (
	pageAt     field = iota
	deviceBits       // of the entry of a device
	deviceAt         // in units
	routeNumber
	routeColl
	collTarget
	fields // how many there are
)

// place is where a field is located in an entry.
type place struct{ first, bits int }

func (f field) place() place {
	return [fields]place{
		pageAt:      {0, 32},
		deviceBits:  {0, 5},
		deviceAt:    {8, 40},
		routeNumber: {0, 32},
		routeColl:   {32, 16},
		collTarget:  {0, 16},
	}[f]
}

// most returns the greatest number that fits.
func (f field) most() int { return 1<<f.place().bits - 1 }

// fits reports whether the field can have a number.
func (f field) fits(n int) bool { return n >= 0 && n <= f.most() }

// in returns the number that an entry has in the field.
func (f field) in(v uint64) int { return int(v>>f.place().first) & f.most() }

// of returns the bits of an entry that has a number in the field.
func (f field) of(n int) uint64 { return uint64(n) << f.place().first }

func valid(v uint64) bool { return v&validBit != 0 }

// numbered reports whether a number can be that of a device or of a collection.
func numbered(id int) bool { return id >= 0 && id < api.MaxMem }

// nth returns where entry k of a window is, if it exists.
func nth(m *mem.Mem, w api.Window, k int) (api.Window, bool) {
	if !numbered(k) || !m.Holds(w) {
		return api.Window{}, false
	}
	at, e := mem.Part(w, entrySize*k, entrySize)
	return at, e == api.OK
}

// load returns an entry that exists.
func load(m *mem.Mem, at api.Window) uint64 {
	v, _ := m.Read(at, 0, entrySize)
	return v
}

// store changes an entry that exists.
func store(m *mem.Mem, at api.Window, v uint64) api.Errno { return m.Write(at, 0, entrySize, v) }

// deviceIn returns the device that an entry contains: the zero one if the entry is not valid.
func deviceIn(v uint64) Device {
	if !valid(v) {
		return Device{}
	}
	return Device{Valid: true, Bits: deviceBits.in(v), At: unit * deviceAt.in(v)}
}

// word returns the entry that contains the device: 0 if the device is not valid.
func (d Device) word() (uint64, api.Errno) {
	if !d.Valid {
		return 0, api.OK
	}
	if !deviceBits.fits(d.Bits) || d.At%unit != 0 || !deviceAt.fits(d.At/unit) {
		return 0, api.ErrArg
	}
	return validBit | deviceBits.of(d.Bits) | deviceAt.of(d.At/unit), api.OK
}

// routeIn returns the route that an entry contains: the zero one if the entry is not valid.
func routeIn(v uint64) api.Route {
	if !valid(v) {
		return api.Route{}
	}
	return api.Route{Number: routeNumber.in(v), Coll: routeColl.in(v), Valid: true}
}

// routeWord returns the entry that contains a route: 0 if the route is not valid.
func routeWord(r api.Route) (uint64, api.Errno) {
	if !r.Valid {
		return 0, api.OK
	}
	if !routeNumber.fits(r.Number) || !routeColl.fits(r.Coll) {
		return 0, api.ErrArg
	}
	return validBit | routeNumber.of(r.Number) | routeColl.of(r.Coll), api.OK
}
