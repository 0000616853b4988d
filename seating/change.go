package seating

import "berth/api"

// Change is a command that has been looked over: nothing can refuse it any more.
type Change interface {
	// Do does the change to a flight.
	Do(f *Flight)
}

// Start gives an empty flight its plane, with all seats free.
type Start struct {
	Plane api.Plane
}

// Fill makes a seat held, booked or blocked.
type Fill struct {
	At   api.Place
	With Seat
}

// Empty makes a seat free.
type Empty struct {
	At api.Place
}

// Shift makes the seat To what the seat At was, and that one free.
type Shift struct {
	At, To api.Place
}

// Pass is that it is Now. It is done to every flight.
type Pass struct {
	Now int
}

func (c Start) Do(f *Flight) {
	p := c.Plane
	f.plane = p
	f.seats = map[api.Place]Seat{}
	f.totals.Front[api.Free] = p.Front * p.Cols
	f.totals.Rear[api.Free] = (p.Rows - p.Front) * p.Cols
	f.reckon()
}

func (c Fill) Do(f *Flight) { f.put(c.At, c.With) }

func (c Empty) Do(f *Flight) { f.put(c.At, Seat{}) }

func (c Shift) Do(f *Flight) {
	s := f.seats[c.At]
	f.put(c.At, Seat{})
	f.put(c.To, s)
}

func (c Pass) Do(f *Flight) {
	for at, s := range f.seats {
		if s.State == api.Held && s.Until <= c.Now {
			f.put(at, Seat{})
		}
	}
}
