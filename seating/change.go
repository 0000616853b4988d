package seating

import "berth/api"

// Change is a command that has been looked over: nothing can refuse it any more.
type Change interface {
	// Do does the change to a flight.
	Do(f *Flight)
}

// Start gives an empty flight its plane, with all seats free.
type Start struct {
	Plane api.Plane
}

// Fill makes a seat held, booked or blocked.
type Fill struct {
	At   api.Place
	With Seat
}

// Empty makes a seat free.
type Empty struct {
	At api.Place
}

// Shift makes the seat To what the seat At was, and that one free.
type Shift struct {
	At, To api.Place
}

// Refit gives a flight other rows, columns and another front cabin; its limits stay.
type Refit struct {
	Rows, Cols, Front int
}

// Pass is that it is Now. It is done to every flight.
type Pass struct {
	Now int
}

func (c Start) Do(f *Flight) {
	f.fit(c.Plane)
	f.epoch++
}

func (c Fill) Do(f *Flight) {
	f.put(c.At, c.With)
	f.epoch++
}

func (c Empty) Do(f *Flight) {
	f.put(c.At, Seat{})
	f.epoch++
}

func (c Shift) Do(f *Flight) {
	s := f.seats[c.At]
	f.put(c.At, Seat{})
	f.put(c.To, s)
	f.epoch++
}

func (c Refit) Do(f *Flight) {
	old := *f
	f.fit(api.Plane{Rows: c.Rows, Cols: c.Cols, Front: c.Front, Limits: old.plane.Limits})
	// Those who stay come first: nobody else may have their seats.
	f.reseat(f.settle(old))
	f.epoch++
}

func (c Pass) Do(f *Flight) {
	before := f.totals.Sold
	for at, s := range f.seats {
		if s.State == api.Held && s.Until <= c.Now {
			f.put(at, Seat{})
		}
	}
	// Each seat that became free here is one less of those sold.
	if f.totals.Sold != before {
		f.epoch++
	}
}

// settle fills the seats that are there as in the old plane, and gives those that are not, in the order of their places.
func (f *Flight) settle(old Flight) []Seat {
	var without []Seat
	for i := range old.size() {
		at := old.placeAt(i)
		s, filled := old.seats[at]
		switch {
		case filled && f.has(at):
			f.put(at, s)
		case filled:
			without = append(without, s)
		}
	}
	return without
}

// reseat puts each of the seats, one after the other, at the first place that is free.
func (f *Flight) reseat(seats []Seat) {
	i := 0
	for _, s := range seats {
		for f.seats[f.placeAt(i)].State != api.Free {
			i++
		}
		f.put(f.placeAt(i), s)
	}
}
