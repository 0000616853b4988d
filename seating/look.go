package seating

import "berth/api"

// LookAdd looks over the plane of a flight that there is not yet.
func LookAdd(p api.Plane) (Change, api.Errno) {
	if !shapeMayBe(p) || !limitsMayBe(p.Limits) {
		return nil, api.ErrShape
	}
	return Start{Plane: p}, api.OK
}

// shapeMayBe tells whether there may be a plane of these rows, columns and front cabin.
func shapeMayBe(p api.Plane) bool {
	return p.Rows >= 1 && p.Rows <= api.MaxRows &&
		p.Cols >= 1 && p.Cols <= api.MaxCols &&
		p.Front >= 0 && p.Front <= p.Rows
}

// limitsMayBe tells whether a flight may have these limits.
func limitsMayBe(limits [api.Classes]int) bool {
	most := api.MaxLimit
	for _, limit := range limits {
		if limit < 0 || limit > most {
			return false
		}
		most = limit
	}
	return true
}

// LookTick looks over how much later it is to be.
func LookTick(time, now int) (Change, api.Errno) {
	if time < 1 || time > api.MaxAhead {
		return nil, api.ErrTime
	}
	return Pass{Now: now + time}, api.OK
}

// Look looks over a command to this flight: neither an Add nor a Tick.
func (f *Flight) Look(c api.Command, now int) (Change, api.Errno) {
	if c.Kind == api.Swap {
		return f.lookSwap(c.Plane)
	}
	if !f.has(c.At) || c.Kind == api.Move && !f.has(c.To) {
		return nil, api.ErrSeat
	}
	switch c.Kind {
	case api.Hold:
		return f.lookHold(c, now)
	case api.Book:
		return f.lookBook(c)
	case api.Cancel:
		return f.lookCancel(c)
	case api.Move:
		return f.lookMove(c)
	case api.Block:
		return f.lookBlock(c)
	case api.Unblock:
		return f.lookUnblock(c)
	}
	return nil, api.ErrKind
}

// lookSwap looks over another plane for the flight; its limits are nobody's.
func (f *Flight) lookSwap(p api.Plane) (Change, api.Errno) {
	if !shapeMayBe(p) || p.Rows*p.Cols < len(f.seats) {
		return nil, api.ErrShape
	}
	return Refit{Rows: p.Rows, Cols: p.Cols, Front: p.Front}, api.OK
}

func (f *Flight) lookHold(c api.Command, now int) (Change, api.Errno) {
	if e := lookBuyer(c); e != api.OK {
		return nil, e
	}
	if c.Time <= now || c.Time > now+api.MaxAhead {
		return nil, api.ErrTime
	}
	if e := f.lookSale(c); e != api.OK {
		return nil, e
	}
	return Fill{At: c.At, With: Seat{State: api.Held, Party: c.Party, Class: c.Class, Until: c.Time}}, api.OK
}

func (f *Flight) lookBook(c api.Command) (Change, api.Errno) {
	if e := lookBuyer(c); e != api.OK {
		return nil, e
	}
	s := f.seats[c.At]
	if own := s.State == api.Held && s.Party == c.Party && s.Class == c.Class; !own {
		if e := f.lookSale(c); e != api.OK {
			return nil, e
		}
	}
	return Fill{At: c.At, With: Seat{State: api.Booked, Party: c.Party, Class: c.Class}}, api.OK
}

// lookBuyer looks over who wants a seat, and in which class.
func lookBuyer(c api.Command) api.Errno {
	switch {
	case c.Class < 0 || c.Class >= api.Classes:
		return api.ErrClass
	case c.Party < 1 || c.Party > api.MaxParty:
		return api.ErrParty
	}
	return api.OK
}

// lookSale looks over whether the seat may be sold in the class.
func (f *Flight) lookSale(c api.Command) api.Errno {
	switch {
	case f.seats[c.At].State != api.Free:
		return api.ErrTaken
	case f.left[c.Class] == 0:
		return api.ErrLimit
	}
	return api.OK
}

func (f *Flight) lookCancel(c api.Command) (Change, api.Errno) {
	if e := f.lookOwner(c); e != api.OK {
		return nil, e
	}
	return Empty{At: c.At}, api.OK
}

func (f *Flight) lookMove(c api.Command) (Change, api.Errno) {
	if e := f.lookOwner(c); e != api.OK {
		return nil, e
	}
	if f.seats[c.To].State != api.Free {
		return nil, api.ErrTaken
	}
	return Shift{At: c.At, To: c.To}, api.OK
}

// lookOwner looks over whether the seat is sold to the party that wants to give it up.
func (f *Flight) lookOwner(c api.Command) api.Errno {
	s := f.seats[c.At]
	switch {
	case !sold(s):
		return api.ErrState
	case s.Party != c.Party:
		return api.ErrParty
	}
	return api.OK
}

func (f *Flight) lookBlock(c api.Command) (Change, api.Errno) {
	if f.seats[c.At].State != api.Free {
		return nil, api.ErrTaken
	}
	return Fill{At: c.At, With: Seat{State: api.Blocked}}, api.OK
}

func (f *Flight) lookUnblock(c api.Command) (Change, api.Errno) {
	if f.seats[c.At].State != api.Blocked {
		return nil, api.ErrState
	}
	return Empty{At: c.At}, api.OK
}
