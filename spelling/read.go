package spelling

import (
	"berth/api"
	"berth/seating"
)

// Read gives the entries of the records that lie behind one another in b, from the time 0 on, and tells whether these are all of b. If not, what is behind them is a piece of a record.
func Read(b []byte) (entries []Entry, all bool) {
	r := reader{b: b}
	for len(r.b) > 0 {
		record := r.record()
		if r.torn {
			return entries, false
		}
		entries = append(entries, record...)
	}
	return entries, true
}

// reader is the bytes that have not been read yet, and what time it is ahead of them.
type reader struct {
	b    []byte
	now  int
	torn bool // these are not the bytes of a record, or not all of them
}

func (r *reader) record() []Entry {
	var entries []Entry
	for n := r.number(); n > 0 && !r.torn; n-- {
		entries = append(entries, r.entry())
	}
	if r.byte() != end {
		r.torn = true
	}
	return entries
}

func (r *reader) entry() Entry {
	head := int(r.byte())
	x := Entry{Flight: head & flightMask}
	switch head >> flightBits {
	case start:
		x.Change = seating.Start{Plane: r.plane()}
	case fill:
		x.Change = r.fill()
	case empty:
		x.Change = seating.Empty{At: r.place()}
	case shift:
		at := r.place()
		x.Change = seating.Shift{At: at, To: r.place()}
	case refit:
		rows, cols, front := r.shape()
		x.Change = seating.Refit{Rows: rows, Cols: cols, Front: front}
	case pass:
		r.now += r.number()
		x.Change = seating.Pass{Now: r.now}
	case whole:
		x.Change = r.whole()
	default:
		r.torn = true
	}
	return x
}

func (r *reader) byte() byte {
	if len(r.b) == 0 {
		r.torn = true
		return 0
	}
	c := r.b[0]
	r.b = r.b[1:]
	return c
}

func (r *reader) number() int {
	n := 0
	for bits := 0; ; bits += 7 {
		c := r.byte()
		n |= int(c&0x7F) << bits
		if c < 0x80 {
			return n
		}
	}
}

func (r *reader) place() api.Place {
	n := r.number()
	return api.Place{Row: n/api.MaxCols + 1, Col: n%api.MaxCols + 1}
}

func (r *reader) shape() (rows, cols, front int) {
	rows = r.number()
	cols = r.number()
	return rows, cols, r.number()
}

func (r *reader) plane() api.Plane {
	var p api.Plane
	p.Rows, p.Cols, p.Front = r.shape()
	for class := range p.Limits {
		p.Limits[class] = r.number()
	}
	return p
}

func (r *reader) fill() seating.Fill {
	c := seating.Fill{At: r.place()}
	n := r.number()
	c.With.State, c.With.Class = n/api.Classes, n%api.Classes
	if c.With.State != api.Blocked {
		c.With.Party = r.number()
	}
	if c.With.State == api.Held {
		c.With.Until = r.now + r.number()
	}
	return c
}

func (r *reader) whole() seating.Whole {
	c := seating.Whole{Plane: r.plane(), Epoch: r.number()}
	for n := r.number(); n > 0 && !r.torn; n-- {
		c.Seats = append(c.Seats, r.fill())
	}
	return c
}
