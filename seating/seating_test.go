package seating

import (
	"reflect"
	"testing"

	"berth/api"
)

func place(row, col int) api.Place { return api.Place{Row: row, Col: col} }

// started gives a flight of two rows of three seats, the first of them the front cabin.
func started(t *testing.T) *Flight {
	t.Helper()
	c, e := LookAdd(api.Plane{Rows: 2, Cols: 3, Front: 1, Limits: [4]int{6, 4, 2, 0}})
	if e != api.OK {
		t.Fatalf("LookAdd: %d", e)
	}
	f := &Flight{}
	c.Do(f)
	return f
}

func TestP3LookingOverChangesNothing(t *testing.T) {
	f := started(t)
	c := api.Command{Kind: api.Book, At: place(1, 1), Party: 1, Class: 0}
	before := f.Totals()
	change, e := f.Look(c, 0)
	if e != api.OK || f.Totals() != before || len(f.seats) != 0 {
		t.Fatalf("Look = %v, %d; then %v", change, e, f.Totals())
	}
	change.Do(f)
	if f.seats[c.At] != (Seat{State: api.Booked, Party: 1}) {
		t.Errorf("the seat is %v", f.seats[c.At])
	}
}

func TestP6EachKindOfChange(t *testing.T) {
	held := Seat{State: api.Held, Party: 5, Class: 2, Until: 10}
	booked := Seat{State: api.Booked, Party: 9, Class: 0}
	f := started(t)
	for _, s := range []struct {
		c      Change
		totals api.Totals
		left   [4]int
		seats  int
		epoch  int
	}{
		{Fill{At: place(1, 1), With: held}, api.Totals{Front: [4]int{2, 1}, Rear: [4]int{3}, Sold: [4]int{0, 0, 1}}, [4]int{5, 3, 1, 0}, 1, 2},
		{Fill{At: place(2, 3), With: booked}, api.Totals{Front: [4]int{2, 1}, Rear: [4]int{2, 0, 1}, Sold: [4]int{1, 0, 1}}, [4]int{4, 3, 1, 0}, 2, 3},
		{Fill{At: place(2, 2), With: Seat{State: api.Blocked}}, api.Totals{Front: [4]int{2, 1}, Rear: [4]int{1, 0, 1, 1}, Sold: [4]int{1, 0, 1}}, [4]int{3, 3, 1, 0}, 3, 4},
		{Shift{At: place(2, 3), To: place(1, 2)}, api.Totals{Front: [4]int{1, 1, 1}, Rear: [4]int{2, 0, 0, 1}, Sold: [4]int{1, 0, 1}}, [4]int{3, 3, 1, 0}, 3, 5},
		{Empty{At: place(2, 2)}, api.Totals{Front: [4]int{1, 1, 1}, Rear: [4]int{3}, Sold: [4]int{1, 0, 1}}, [4]int{4, 3, 1, 0}, 2, 6},
		{Pass{Now: 9}, api.Totals{Front: [4]int{1, 1, 1}, Rear: [4]int{3}, Sold: [4]int{1, 0, 1}}, [4]int{4, 3, 1, 0}, 2, 6},
		{Pass{Now: 10}, api.Totals{Front: [4]int{2, 0, 1}, Rear: [4]int{3}, Sold: [4]int{1}}, [4]int{5, 4, 2, 0}, 1, 7},
		{Refit{Rows: 3, Cols: 1, Front: 3}, api.Totals{Front: [4]int{2, 0, 1}, Sold: [4]int{1}}, [4]int{2, 2, 2, 0}, 1, 8},
	} {
		s.c.Do(f)
		if f.Totals() != s.totals || f.Left() != s.left || len(f.seats) != s.seats || f.epoch != s.epoch {
			t.Errorf("after %#v: %v, %v, %d seats not free, epoch %d; want %v, %v, %d, %d", s.c, f.Totals(), f.Left(), len(f.seats), f.epoch, s.totals, s.left, s.seats, s.epoch)
		}
	}
	if f.seats[place(1, 1)] != booked {
		t.Errorf("the seat that was moved is %v, want %v", f.seats[place(1, 1)], booked)
	}
}

func TestP12WholeMakesTheSameFlight(t *testing.T) {
	f := started(t)
	for i, c := range []Change{
		Pass{Now: 1},
		Fill{At: place(1, 1), With: Seat{State: api.Held, Party: 5, Class: 2, Until: 10}},
		Fill{At: place(2, 3), With: Seat{State: api.Booked, Party: 9}},
		Fill{At: place(2, 2), With: Seat{State: api.Blocked}},
		Refit{Rows: 4, Cols: 1, Front: 3},
		Pass{Now: 10},
	} {
		c.Do(f)
		got := &Flight{}
		f.Whole().Do(got)
		if !reflect.DeepEqual(got, f) {
			t.Errorf("behind change %d the whole makes %v of %v", i, got, f)
		}
	}
	if _, started := started(t).Whole().(Start); !started {
		t.Error("a flight that was made alone is told by more than that")
	}
}
