package seating

import "berth/api"

// Whole makes an empty flight what another one has become, however many changes that took.
type Whole struct {
	Plane api.Plane
	Seats []Fill // those that are not free, in the order of their places
	Epoch int
}

// Whole gives one change that makes an empty flight what this one is.
func (f *Flight) Whole() Change {
	if f.epoch == 1 {
		// Its Start is all that was done to it, and says the same with less.
		return Start{Plane: f.plane}
	}
	w := Whole{Plane: f.plane, Epoch: f.epoch}
	for i := range f.size() {
		at := f.placeAt(i)
		if s, filled := f.seats[at]; filled {
			w.Seats = append(w.Seats, Fill{At: at, With: s})
		}
	}
	return w
}

func (c Whole) Do(f *Flight) {
	f.fit(c.Plane)
	for _, s := range c.Seats {
		f.put(s.At, s.With)
	}
	f.epoch = c.Epoch
}
