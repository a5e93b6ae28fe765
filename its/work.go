package its

import (
	"crier/api"
	"crier/lpi"
	"crier/mem"
	"crier/tables"
)

// work is what a call works on: the service, the memory, and the message interrupts of the processors.
type work struct {
	s  *Its
	m  *mem.Mem
	ts []*lpi.Lpis
}

// event is an event of a device, with the route that its entry contained.
type event struct {
	of    tables.Device
	ev    int
	route api.Route
}

// device returns a device that is valid.
func (w work) device(id int) (tables.Device, api.Errno) {
	d, e := w.s.Devices.Get(w.m, id)
	if e != api.OK {
		return tables.Device{}, e
	}
	if !d.Valid {
		return tables.Device{}, api.ErrDevice
	}
	return d, api.OK
}

// entry returns an event, whether its route is valid or not.
func (w work) entry(dev, ev int) (event, api.Errno) {
	d, e := w.device(dev)
	if e != api.OK {
		return event{}, e
	}
	r, e := d.Route(w.m, ev)
	if e != api.OK {
		return event{}, e
	}
	return event{d, ev, r}, api.OK
}

// event returns an event whose route is valid.
func (w work) event(dev, ev int) (event, api.Errno) {
	x, e := w.entry(dev, ev)
	if e != api.OK {
		return event{}, e
	}
	if !x.route.Valid {
		return event{}, api.ErrEvent
	}
	return x, api.OK
}

// collection returns the target of a collection.
func (w work) collection(coll int) (int, api.Errno) {
	target, is, e := tables.Target(w.m, w.s.Colls, coll)
	if e != api.OK {
		return 0, e
	}
	if !is {
		return 0, api.ErrColl
	}
	return target, api.OK
}

// core returns the message interrupts of a processor.
func (w work) core(k int) (*lpi.Lpis, api.Errno) {
	if k >= len(w.ts) {
		return nil, api.ErrCore
	}
	return w.ts[k], api.OK
}

// side returns the message interrupts of the processor that is the target of a collection.
func (w work) side(coll int) (*lpi.Lpis, api.Errno) {
	target, e := w.collection(coll)
	if e != api.OK {
		return nil, e
	}
	return w.core(target)
}

// place returns the number of the interrupt of an event, and the side of its collection.
func (w work) place(dev, ev int) (int, *lpi.Lpis, api.Errno) {
	x, e := w.event(dev, ev)
	if e != api.OK {
		return 0, nil, e
	}
	l, e := w.side(x.route.Coll)
	if e != api.OK {
		return 0, nil, e
	}
	return x.route.Number, l, api.OK
}

// set changes the route of an event, whose entry exists.
func (w work) set(x event, r api.Route) { x.of.SetRoute(w.m, x.ev, r) }

// forget removes the route of an event; its interrupt does not remain pending.
func (w work) forget(x event) {
	if l, e := w.side(x.route.Coll); e == api.OK {
		l.Set(w.m, x.route.Number, false)
	}
	w.set(x, api.Route{})
}
