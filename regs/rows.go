package regs

import "crier/api"

// row is a range of offsets with registers of one kind, each as wide as an access to it.
type row struct {
	from, end int
	width     int
	reg       api.Reg
	count     int // how many interrupts each register describes; 0 for none
	first     int // the first interrupt of the first register
}

// meets reports whether a byte of an access belongs to the row.
func (r row) meets(off, width int) bool { return off < r.end && off+width > r.from }

// has reports whether a register of the row describes an interrupt.
func (r row) has(id int) bool {
	return r.first <= id && id < r.first+(r.end-r.from)/r.width*r.count
}

// place returns what the register at an offset describes.
func (r row) place(off int) api.Place {
	return api.Place{Reg: r.reg, First: r.first + (off-r.from)/r.width*r.count, Count: r.count}
}

// at returns the offset of the register that describes an interrupt that the row has.
func (r row) at(id int) int { return r.from + (id-r.first)/r.count*r.width }

func distRows() []row {
	return []row{
		{0x0, 0x4, 4, api.Ctlr, 0, 0},
		{0x4, 0x8, 4, api.Typer, 0, 0},
		{0x80, 0x100, 4, api.Igroup, 32, 0},
		{0x100, 0x180, 4, api.Isenable, 32, 0},
		{0x180, 0x200, 4, api.Icenable, 32, 0},
		{0x200, 0x280, 4, api.Ispend, 32, 0},
		{0x280, 0x300, 4, api.Icpend, 32, 0},
		{0x300, 0x380, 4, api.Isactive, 32, 0},
		{0x380, 0x400, 4, api.Icactive, 32, 0},
		{0x400, 0x800, 4, api.Ipriority, 4, 0},
		{0xc00, 0xd00, 4, api.Icfg, 16, 0},
		{0x6100, 0x8000, 8, api.Irouter, 1, api.FirstSpi},
	}
}

func redistRows() []row {
	return []row{
		{0x0, 0x4, 4, api.Ctlr, 0, 0},
		{0x8, 0x10, 8, api.Typer, 0, 0},
		{0x14, 0x18, 4, api.Waker, 0, 0},
		{0x70, 0x78, 8, api.Propbase, 0, 0},
		{0x78, 0x80, 8, api.Pendbase, 0, 0},
		{0xa0, 0xa8, 8, api.Invlpi, 0, 0},
		{0xb0, 0xb8, 8, api.Invall, 0, 0},
		{0xc0, 0xc4, 4, api.Syncr, 0, 0},
		{0x10080, 0x10084, 4, api.Igroup, 32, 0},
		{0x10100, 0x10104, 4, api.Isenable, 32, 0},
		{0x10180, 0x10184, 4, api.Icenable, 32, 0},
		{0x10200, 0x10204, 4, api.Ispend, 32, 0},
		{0x10280, 0x10284, 4, api.Icpend, 32, 0},
		{0x10300, 0x10304, 4, api.Isactive, 32, 0},
		{0x10380, 0x10384, 4, api.Icactive, 32, 0},
		{0x10400, 0x10420, 4, api.Ipriority, 4, 0},
		{0x10c00, 0x10c08, 4, api.Icfg, 16, 0},
	}
}

func itsRows() []row {
	return []row{
		{0x0, 0x4, 4, api.Ctlr, 0, 0},
		{0x8, 0x10, 8, api.Typer, 0, 0},
		{0x80, 0x88, 8, api.Cbaser, 0, 0},
		{0x88, 0x90, 8, api.Cwriter, 0, 0},
		{0x90, 0x98, 8, api.Creadr, 0, 0},
	}
}
