package following

import (
	"slices"
	"testing"

	"berth/api"
	"berth/seating"
)

// started gives a flight of one row of so many seats, that many of which may be sold in each class.
func started(t *testing.T, seats int) *seating.Flight {
	t.Helper()
	c, e := seating.LookAdd(api.Plane{Rows: 1, Cols: seats, Limits: [4]int{seats, seats, seats, seats}})
	if e != api.OK {
		t.Fatalf("LookAdd: %d", e)
	}
	f := &seating.Flight{}
	c.Do(f)
	return f
}

func wantTold(t *testing.T, f *Follower, flights []*seating.Flight, most int, fresh, more bool, want ...api.News) {
	t.Helper()
	b := f.Tell(flights, most)
	if b.Fresh != fresh || b.More != more || !slices.Equal(b.News, want) {
		t.Errorf("Tell(.., %d) = %v, want %v, %v, %v", most, b, fresh, want, more)
	}
}

func TestP11Tell(t *testing.T) {
	f := &Follower{}
	flights := make([]*seating.Flight, 4)
	wantTold(t, f, flights, 1, true, false)
	wantTold(t, f, flights, 1, false, false)
	flights[2], flights[3] = started(t, 1), started(t, 2)
	wantTold(t, f, flights, 3, false, true, api.News{Flight: 2, Class: 0, Left: 1}, api.News{Flight: 2, Class: 1, Left: 1}, api.News{Flight: 2, Class: 2, Left: 1})
	seating.Fill{At: api.Place{Row: 1, Col: 1}, With: seating.Seat{State: api.Blocked}}.Do(flights[2])
	wantTold(t, f, flights, 5, false, true, api.News{Flight: 2, Class: 0}, api.News{Flight: 2, Class: 1}, api.News{Flight: 2, Class: 2}, api.News{Flight: 2, Class: 3}, api.News{Flight: 3, Class: 0, Left: 2})
	wantTold(t, f, flights, 3, false, false, api.News{Flight: 3, Class: 1, Left: 2}, api.News{Flight: 3, Class: 2, Left: 2}, api.News{Flight: 3, Class: 3, Left: 2})
	wantTold(t, f, flights, 3, false, false)
}
