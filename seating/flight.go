// Package seating: the seats of a flight and their counts, the changes that may be done to it, and how a command is looked over and becomes one of them.
package seating

import "berth/api"

// Seat is what a seat is, whichever it is; the empty Seat is a free one.
type Seat struct {
	State, Party, Class, Until int
}

// Flight is a plane with its seats, and what counting them would tell. The empty Flight has no seat, until a Start is done to it.
type Flight struct {
	plane  api.Plane
	seats  map[api.Place]Seat // those that are not free
	totals api.Totals
	left   [api.Classes]int
	epoch  int // how many changes have changed a seat or the plane
}

// Totals tells how many seats are in each state, and how many are sold of each class.
func (f *Flight) Totals() api.Totals { return f.totals }

// Left tells how many seats are left of each class, MostTold at the most.
func (f *Flight) Left() [api.Classes]int {
	told := f.left
	for class, n := range told {
		told[class] = min(n, api.MostTold)
	}
	return told
}

// has tells whether there is a seat at the place.
func (f *Flight) has(at api.Place) bool {
	return at.Row >= 1 && at.Row <= f.plane.Rows && at.Col >= 1 && at.Col <= f.plane.Cols
}

// size is how many seats there are.
func (f *Flight) size() int { return f.plane.Rows * f.plane.Cols }

// placeAt is the place that has so many places ahead of it, in their order.
func (f *Flight) placeAt(ahead int) api.Place {
	return api.Place{Row: ahead/f.plane.Cols + 1, Col: ahead%f.plane.Cols + 1}
}

// ahead is how many places are ahead of the place of a seat, in their order.
func (f *Flight) ahead(at api.Place) int { return (at.Row-1)*f.plane.Cols + at.Col - 1 }

// fit gives the flight the plane, with all seats free.
func (f *Flight) fit(p api.Plane) {
	f.plane = p
	f.seats = map[api.Place]Seat{}
	f.totals = api.Totals{}
	f.totals.Front[api.Free] = p.Front * p.Cols
	f.totals.Rear[api.Free] = (p.Rows - p.Front) * p.Cols
	f.reckon()
}

// put makes the seat at the place what it is from now on. But for fit, no seat changes but by it, so that the counts stay true.
func (f *Flight) put(at api.Place, s Seat) {
	f.tally(at, f.seats[at], -1)
	f.tally(at, s, 1)
	if s.State == api.Free {
		delete(f.seats, at)
	} else {
		f.seats[at] = s
	}
	f.reckon()
}

// tally counts a seat of the place so many times more.
func (f *Flight) tally(at api.Place, s Seat, times int) {
	states := &f.totals.Rear
	if at.Row <= f.plane.Front {
		states = &f.totals.Front
	}
	states[s.State] += times
	if sold(s) {
		f.totals.Sold[s.Class] += times
	}
}

// sold tells whether the seat counts as sold of its class.
func sold(s Seat) bool { return s.State == api.Held || s.State == api.Booked }

// reckon works out anew what is left of the classes, from the counts.
func (f *Flight) reckon() {
	soldFrom := 0
	for _, n := range f.totals.Sold {
		soldFrom += n
	}
	least := f.totals.Front[api.Free] + f.totals.Rear[api.Free]
	for class, limit := range f.plane.Limits {
		least = min(least, limit-soldFrom)
		f.left[class] = max(least, 0)
		soldFrom -= f.totals.Sold[class]
	}
}
