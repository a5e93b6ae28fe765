package its

import (
	"crier/api"
	"crier/lpi"
	"crier/mem"
	"crier/tables"
)

const entrySize = 8 // bytes of the table of events for each event

// do executes a valid command.
func (w work) do(c api.Command) api.Errno {
	switch c.Op {
	case api.Mapd:
		return w.mapDevice(c)
	case api.Mapc:
		return w.mapCollection(c)
	case api.Mapti:
		return w.mapEvent(c, c.Number)
	case api.Mapi:
		return w.mapEvent(c, api.FirstLpi+c.Event)
	case api.Movi:
		return w.moveEvent(c)
	case api.Discard:
		return w.discard(c)
	case api.Int:
		return w.signal(c.Device, c.Event, true)
	case api.ClearOp:
		return w.signal(c.Device, c.Event, false)
	case api.Inv:
		return w.read(c)
	case api.InvallOp:
		return w.readAll(c)
	case api.Movall:
		return w.moveAll(c)
	default: // Sync, as there is no other one: nothing is under way that it could wait for
		_, e := w.core(c.Target)
		return e
	}
}

// mapDevice gives a device a new table of events, or none. The events of the old one are forgotten.
func (w work) mapDevice(c api.Command) api.Errno {
	old, e := w.s.Devices.Get(w.m, c.Device)
	if e != api.OK {
		return e
	}
	d := tables.Device{Valid: c.Valid, Bits: c.Bits, At: c.Addr}
	events := api.Window{At: d.At, Size: entrySize * d.Events()}
	if d.Valid && !w.free(events) {
		return api.ErrTable
	}
	// The zero device, which an entry that is not valid contains, has no routes.
	for ev, r := range old.Routes(w.m) {
		w.forget(event{old, ev, r})
	}
	if d.Valid {
		w.m.Wipe(events)
	}
	return w.s.Devices.Put(w.m, c.Device, d)
}

// free reports whether a table of events may be located in a window.
func (w work) free(x api.Window) bool {
	return w.m.Holds(x) && !mem.Meet(x, w.s.Devices.Window) && !mem.Meet(x, w.s.Colls) && !mem.Meet(x, w.s.Queue.Window)
}

// mapCollection gives a collection a target, or none.
func (w work) mapCollection(c api.Command) api.Errno {
	if _, e := w.core(c.Target); c.Valid && e != api.OK {
		return e
	}
	return tables.SetTarget(w.m, w.s.Colls, c.Coll, c.Target, c.Valid)
}

// mapEvent gives an event a route to an interrupt.
func (w work) mapEvent(c api.Command, number int) api.Errno {
	x, e := w.entry(c.Device, c.Event)
	if e != api.OK {
		return e
	}
	if number < api.FirstLpi || number >= api.MaxMember {
		return api.ErrLpi
	}
	if _, _, e := tables.Target(w.m, w.s.Colls, c.Coll); e != api.OK {
		return e
	}
	if x.route.Valid {
		w.forget(x)
	}
	// Looked up only here, as forgetting may have changed the collections if tables overlap.
	if l, e := w.side(c.Coll); e == api.OK {
		l.Inv(w.m, number)
	}
	w.set(x, api.Route{Number: number, Coll: c.Coll, Valid: true})
	return api.OK
}

// moveEvent gives the route of an event another collection.
func (w work) moveEvent(c api.Command) api.Errno {
	x, e := w.event(c.Device, c.Event)
	if e != api.OK {
		return e
	}
	to, e := w.side(c.Coll)
	if e != api.OK {
		return e
	}
	if from, e := w.side(x.route.Coll); e == api.OK {
		lpi.Move(w.m, x.route.Number, from, to)
	}
	to.Inv(w.m, x.route.Number)
	w.set(x, api.Route{Number: x.route.Number, Coll: c.Coll, Valid: true})
	return api.OK
}

// discard removes the route of an event.
func (w work) discard(c api.Command) api.Errno {
	x, e := w.event(c.Device, c.Event)
	if e != api.OK {
		return e
	}
	w.forget(x)
	return api.OK
}

// signal makes the interrupt of an event pending, or not pending.
func (w work) signal(dev, ev int, is bool) api.Errno {
	number, l, e := w.place(dev, ev)
	if e != api.OK {
		return e
	}
	_, e = l.Set(w.m, number, is)
	return e
}

// read lets the configuration of an event's interrupt be read.
func (w work) read(c api.Command) api.Errno {
	number, l, e := w.place(c.Device, c.Event)
	if e != api.OK {
		return e
	}
	return l.Inv(w.m, number)
}

// readAll lets the configuration of all interrupts be read on the side of a collection.
func (w work) readAll(c api.Command) api.Errno {
	l, e := w.side(c.Coll)
	if e != api.OK {
		return e
	}
	l.InvAll(w.m)
	return api.OK
}

// moveAll moves what is pending from one processor to another.
func (w work) moveAll(c api.Command) api.Errno {
	from, e := w.core(c.Target)
	if e != api.OK {
		return e
	}
	to, e := w.core(c.Number)
	if e != api.OK {
		return e
	}
	lpi.MoveAll(w.m, from, to)
	return api.OK
}
