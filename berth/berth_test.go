package berth_test

import (
	"testing"

	"berth/api"
	"berth/berth"
	"berth/tape"
)

func TestP4OpenAsksForRoom(t *testing.T) {
	for _, room := range []int{-far, -1, 0, 1, api.FileRoom - 1} {
		if k, e := berth.Open(tape.New(room)); k != nil || e != api.ErrSpace {
			t.Errorf("Open of %d bytes = %v, %d", room, k, e)
		}
	}
	for _, room := range []int{api.FileRoom, api.FileRoom + 1, far} {
		if k, e := berth.Open(tape.New(room)); k == nil || e != api.OK {
			t.Errorf("Open of %d bytes = %v, %d", room, k, e)
		}
	}
	if k, e := berth.Open(nil); k != nil || e != api.ErrSpace {
		t.Errorf("Open of no tape = %v, %d", k, e)
	}
}

func TestP4NewKeeperHasNoFlightsAtTimeZero(t *testing.T) {
	k := open(t)
	wantNow(t, k, 0)
	for _, n := range []int{-far, -1, 0, 1, 7, api.MaxFlight, api.MaxFlight + 1, far} {
		if v, e := k.Left(n, 0); v != 0 || e != api.ErrFlight {
			t.Errorf("Left(%d, 0) = %d, %d", n, v, e)
		}
		if v, e := k.Count(n); v != (api.Totals{}) || e != api.ErrFlight {
			t.Errorf("Count(%d) = %v, %d", n, v, e)
		}
		wantNoPage(t, k, n, api.Cursor{}, 1, api.ErrFlight)
	}
}

func TestP1NilKeeperAnswers(t *testing.T) {
	k, _ := berth.Open(tape.New(0))
	wantNow(t, k, 0)
	if v, e := k.Left(1, 0); v != 0 || e != api.ErrFlight {
		t.Errorf("Left = %d, %d", v, e)
	}
	if v, e := k.Count(1); v != (api.Totals{}) || e != api.ErrFlight {
		t.Errorf("Count = %v, %d", v, e)
	}
	wantNoPage(t, k, 1, api.Cursor{}, 1, api.ErrFlight)
	wantNoNews(t, k, api.Followers, 1, api.ErrFollow)
	wantNoNews(t, k, 0, 0, api.ErrPage)
	wantNoNews(t, k, 0, 1, api.OK)
	run(t, k,
		step{api.ErrKind, api.Command{}},
		step{api.ErrFlight, block(1, at(1, 1))},
		step{api.ErrShape, add(1, plane(0, 1, 0))},
		step{api.ErrShut, add(1, plane(1, 1, 0))},
		step{api.ErrTime, tick(0)},
		step{api.ErrShut, tick(1)},
	)
	wantPack(t, k, api.ErrShut)
}

func TestP2KeepersDoNotChangeOneAnother(t *testing.T) {
	a, b := open(t), open(t)
	run(t, a, step{api.OK, add(1, plane(1, 2, 0, 2))}, step{api.OK, book(1, at(1, 1), 1, 0)}, step{api.OK, tick(5)})
	if look(b) != look(open(t)) {
		t.Error("a keeper was changed by another one")
	}
	run(t, b, step{api.OK, add(1, plane(1, 1, 1, 1))})
	wantCount(t, a, 1, api.Totals{Rear: [4]int{1, 0, 1, 0}, Sold: [4]int{1}})
	wantCount(t, b, 1, api.Totals{Front: [4]int{1}})
}

func TestP6KindAndFlightComeFirst(t *testing.T) {
	k := open(t)
	run(t, k, step{api.OK, add(1, plane(1, 1, 0, 1))})
	for _, kind := range []int{-far, -1, 0, api.Swap + 1, 100, far} {
		refuse(t, k, step{api.ErrKind, api.Command{Kind: kind, Flight: 1}}, step{api.ErrKind, api.Command{Kind: kind, Flight: 99}})
	}
	for _, n := range []int{-far, -1, 0, api.MaxFlight + 1, far} {
		for kind := api.Add; kind <= api.Swap; kind++ {
			if kind != api.Tick {
				refuse(t, k, step{api.ErrFlight, api.Command{Kind: kind, Flight: n}})
			}
		}
	}
	for kind := api.Hold; kind <= api.Swap; kind++ {
		if kind != api.Tick {
			refuse(t, k, step{api.ErrFlight, api.Command{Kind: kind, Flight: 2}})
		}
	}
}

func TestP6Add(t *testing.T) {
	k := open(t)
	run(t, k,
		step{api.OK, add(7, plane(2, 3, 1, 6, 4, 2, 0))},
		step{api.OK, add(1, plane(1, 1, 0))},
		step{api.OK, add(2, plane(1, 1, 1, 1, 1, 1, 1))},
		step{api.OK, add(api.MaxFlight, plane(api.MaxRows, api.MaxCols, api.MaxRows, api.MaxLimit, api.MaxLimit, api.MaxLimit, api.MaxLimit))},
	)
	refuse(t, k,
		step{api.ErrTwice, add(7, plane(2, 3, 1, 6, 4, 2, 0))},
		step{api.ErrTwice, add(7, plane(1, 1, 0))},
		step{api.ErrTwice, add(7, plane(0, 0, 0))},
	)
	for _, p := range []api.Plane{
		plane(0, 3, 0), plane(-1, 3, 0), plane(api.MaxRows+1, 3, 0), plane(far, 3, 0),
		plane(2, 0, 0), plane(2, -1, 0), plane(2, api.MaxCols+1, 0), plane(2, far, 0),
		plane(2, 3, -1), plane(2, 3, 3), plane(2, 3, far),
		plane(2, 3, 1, 1, 2, 0, 0), plane(2, 3, 1, 0, 0, 0, 1), plane(2, 3, 1, 4, 3, 3, 4),
		plane(2, 3, 1, api.MaxLimit+1), plane(2, 3, 1, far, far, far, far),
		plane(2, 3, 1, -1, -1, -1, -1), plane(2, 3, 1, 3, 2, 1, -1), plane(2, 3, 1, 3, -far, -far, -far),
	} {
		refuse(t, k, step{api.ErrShape, add(8, p)})
	}
	wantCount(t, k, 7, api.Totals{Front: [4]int{3}, Rear: [4]int{3}})
	wantCount(t, k, 1, api.Totals{Rear: [4]int{1}})
	wantCount(t, k, 2, api.Totals{Front: [4]int{1}})
	wantCount(t, k, api.MaxFlight, api.Totals{Front: [4]int{120}})
}

// wrongPlaces are places at which a plane of two rows and three columns has no seat.
var wrongPlaces = []api.Place{
	{}, {Row: 0, Col: 1}, {Row: 1, Col: 0}, {Row: -1, Col: 1}, {Row: 1, Col: -1}, {Row: 3, Col: 1}, {Row: 1, Col: 4}, {Row: far, Col: 1}, {Row: 1, Col: -far},
}

func TestP6SeatComesBeforeAllElse(t *testing.T) {
	k := open(t)
	run(t, k, step{api.OK, add(1, plane(2, 3, 1))})
	for _, p := range wrongPlaces {
		refuse(t, k,
			step{api.ErrSeat, hold(1, p, 0, 9, 0)},
			step{api.ErrSeat, book(1, p, 0, 9)},
			step{api.ErrSeat, cancel(1, p, 0)},
			step{api.ErrSeat, move(1, p, at(1, 1), 0)},
			step{api.ErrSeat, move(1, at(1, 1), p, 0)},
			step{api.ErrSeat, block(1, p)},
			step{api.ErrSeat, unblock(1, p)},
		)
	}
}

func TestP6Hold(t *testing.T) {
	k := open(t)
	run(t, k,
		step{api.OK, add(7, plane(2, 3, 1, 6, 4, 2, 0))},
		step{api.OK, tick(100)},
		step{api.OK, hold(7, at(1, 1), 5, 2, 101)},
		step{api.OK, hold(7, at(2, 1), api.MaxParty, 0, 200)},
		step{api.OK, hold(7, at(2, 2), 1, 1, 150)},
		step{api.OK, block(7, at(1, 3))},
	)
	want := api.Totals{Front: [4]int{1, 1, 0, 1}, Rear: [4]int{1, 2, 0, 0}, Sold: [4]int{1, 1, 1, 0}}
	wantCount(t, k, 7, want)
	free, taken, blocked := at(1, 2), at(1, 1), at(1, 3)
	refuse(t, k,
		step{api.ErrClass, hold(7, free, 0, -1, 0)}, step{api.ErrClass, hold(7, free, 0, api.Classes, 0)},
		step{api.ErrClass, hold(7, taken, 5, far, 150)}, step{api.ErrClass, hold(7, free, 5, -far, 150)},
		step{api.ErrParty, hold(7, free, 0, 3, 0)}, step{api.ErrParty, hold(7, taken, api.MaxParty+1, 0, 0)},
		step{api.ErrParty, hold(7, free, -far, 0, 150)}, step{api.ErrParty, hold(7, free, far, 0, 150)},
		step{api.ErrTime, hold(7, taken, 6, 3, 100)}, step{api.ErrTime, hold(7, free, 6, 3, 201)},
		step{api.ErrTime, hold(7, free, 6, 0, -far)}, step{api.ErrTime, hold(7, free, 6, 0, far)},
		step{api.ErrTaken, hold(7, taken, 6, 3, 150)}, step{api.ErrTaken, hold(7, taken, 5, 2, 150)},
		step{api.ErrTaken, hold(7, blocked, 6, 3, 150)},
		step{api.ErrLimit, hold(7, free, 6, 3, 150)},
	)
}

func TestP6Book(t *testing.T) {
	k := open(t)
	run(t, k,
		step{api.OK, add(7, plane(2, 3, 1, 6, 4, 1, 0))},
		step{api.OK, hold(7, at(1, 1), 5, 2, 10)},
		step{api.OK, block(7, at(1, 3))},
	)
	free, held, blocked := at(1, 2), at(1, 1), at(1, 3)
	refuse(t, k,
		step{api.ErrClass, book(7, free, 0, -1)}, step{api.ErrClass, book(7, held, 5, api.Classes)}, step{api.ErrClass, book(7, free, 5, far)},
		step{api.ErrParty, book(7, free, 0, 3)}, step{api.ErrParty, book(7, held, api.MaxParty+1, 2)}, step{api.ErrParty, book(7, free, -far, 0)},
		step{api.ErrTaken, book(7, held, 5, 1)}, step{api.ErrTaken, book(7, held, 6, 2)}, step{api.ErrTaken, book(7, held, 6, 3)},
		step{api.ErrTaken, book(7, blocked, 5, 0)},
		step{api.ErrLimit, book(7, free, 5, 2)}, step{api.ErrLimit, book(7, free, 5, 3)},
	)
	// Of class 2 nothing is left; the party that holds the seat in it books it all the same.
	run(t, k,
		step{api.OK, book(7, held, 5, 2)},
		step{api.OK, book(7, at(2, 3), api.MaxParty, 0)},
	)
	refuse(t, k, step{api.ErrTaken, book(7, held, 5, 2)})
	wantCount(t, k, 7, api.Totals{Front: [4]int{1, 0, 1, 1}, Rear: [4]int{2, 0, 1, 0}, Sold: [4]int{1, 0, 1, 0}})
	run(t, k, step{api.OK, tick(100)})
	wantCount(t, k, 7, api.Totals{Front: [4]int{1, 0, 1, 1}, Rear: [4]int{2, 0, 1, 0}, Sold: [4]int{1, 0, 1, 0}})
}

func TestP6Cancel(t *testing.T) {
	k := open(t)
	run(t, k,
		step{api.OK, add(7, plane(2, 3, 1, 6, 6, 6, 6))},
		step{api.OK, hold(7, at(1, 1), 5, 2, 10)},
		step{api.OK, book(7, at(2, 1), 6, 3)},
		step{api.OK, block(7, at(1, 3))},
	)
	refuse(t, k,
		step{api.ErrState, cancel(7, at(1, 2), 5)}, step{api.ErrState, cancel(7, at(1, 2), 0)}, step{api.ErrState, cancel(7, at(1, 3), 5)},
		step{api.ErrParty, cancel(7, at(1, 1), 6)}, step{api.ErrParty, cancel(7, at(2, 1), 5)}, step{api.ErrParty, cancel(7, at(2, 1), 0)}, step{api.ErrParty, cancel(7, at(2, 1), far)},
	)
	run(t, k, step{api.OK, cancel(7, at(1, 1), 5)}, step{api.OK, cancel(7, at(2, 1), 6)})
	wantCount(t, k, 7, api.Totals{Front: [4]int{2, 0, 0, 1}, Rear: [4]int{3, 0, 0, 0}})
	refuse(t, k, step{api.ErrState, cancel(7, at(1, 1), 5)})
	run(t, k, step{api.OK, book(7, at(1, 1), 8, 0)})
}

func TestP6Move(t *testing.T) {
	k := open(t)
	run(t, k,
		step{api.OK, add(7, plane(2, 3, 1, 2, 1, 0, 0))},
		step{api.OK, hold(7, at(1, 1), 5, 1, 10)},
		step{api.OK, book(7, at(2, 1), 6, 0)},
		step{api.OK, block(7, at(1, 3))},
	)
	refuse(t, k,
		step{api.ErrState, move(7, at(1, 2), at(1, 2), 5)}, step{api.ErrState, move(7, at(1, 3), at(1, 2), 0)},
		step{api.ErrParty, move(7, at(1, 1), at(1, 1), 6)}, step{api.ErrParty, move(7, at(2, 1), at(1, 3), far)},
		step{api.ErrTaken, move(7, at(1, 1), at(1, 1), 5)}, step{api.ErrTaken, move(7, at(1, 1), at(2, 1), 5)}, step{api.ErrTaken, move(7, at(2, 1), at(1, 3), 6)},
	)
	// Nothing is left of any class: a move asks for none.
	run(t, k, step{api.OK, move(7, at(1, 1), at(2, 3), 5)}, step{api.OK, move(7, at(2, 1), at(1, 1), 6)})
	wantCount(t, k, 7, api.Totals{Front: [4]int{1, 0, 1, 1}, Rear: [4]int{2, 1, 0, 0}, Sold: [4]int{1, 1, 0, 0}})
	// What was moved is the same party's, in the same class, until the same time.
	refuse(t, k, step{api.ErrTaken, book(7, at(2, 3), 5, 0)}, step{api.ErrTaken, book(7, at(2, 3), 6, 1)}, step{api.ErrState, cancel(7, at(2, 1), 6)})
	run(t, k, step{api.OK, tick(9)})
	wantCount(t, k, 7, api.Totals{Front: [4]int{1, 0, 1, 1}, Rear: [4]int{2, 1, 0, 0}, Sold: [4]int{1, 1, 0, 0}})
	run(t, k, step{api.OK, tick(1)}, step{api.OK, cancel(7, at(1, 1), 6)})
	wantCount(t, k, 7, api.Totals{Front: [4]int{2, 0, 0, 1}, Rear: [4]int{3, 0, 0, 0}})
}

func TestP6BlockAndUnblock(t *testing.T) {
	k := open(t)
	run(t, k,
		step{api.OK, add(7, plane(2, 3, 1, 6, 6, 6, 6))},
		step{api.OK, hold(7, at(1, 1), 5, 2, 10)},
		step{api.OK, book(7, at(1, 2), 5, 2)},
		step{api.OK, block(7, at(1, 3))},
	)
	refuse(t, k,
		step{api.ErrTaken, block(7, at(1, 1))}, step{api.ErrTaken, block(7, at(1, 2))}, step{api.ErrTaken, block(7, at(1, 3))},
		step{api.ErrState, unblock(7, at(1, 1))}, step{api.ErrState, unblock(7, at(1, 2))}, step{api.ErrState, unblock(7, at(2, 3))},
	)
	wantLeft(t, k, 7, [4]int{3, 3, 3, 3})
	run(t, k, step{api.OK, unblock(7, at(1, 3))})
	wantCount(t, k, 7, api.Totals{Front: [4]int{1, 1, 1, 0}, Rear: [4]int{3, 0, 0, 0}, Sold: [4]int{0, 0, 2, 0}})
	wantLeft(t, k, 7, [4]int{4, 4, 4, 4})
	refuse(t, k, step{api.ErrState, unblock(7, at(1, 3))})
	run(t, k, step{api.OK, book(7, at(1, 3), 5, 0)})
}

func TestP6FieldsThatAreNotNamedAreNotLookedAt(t *testing.T) {
	k := open(t)
	odd := api.Command{Flight: 3, At: at(far, -far), To: at(-far, far), Party: far, Class: -far, Time: far, Plane: plane(-1, far, -far, -1)}
	do := func(c api.Command) step { return step{api.OK, c} }
	fill := func(c api.Command, set func(*api.Command)) step {
		x := odd
		x.Kind = c.Kind
		set(&x)
		return do(x)
	}
	run(t, k,
		fill(api.Command{Kind: api.Add}, func(x *api.Command) { x.Plane = plane(2, 2, 0, 4) }),
		fill(api.Command{Kind: api.Hold}, func(x *api.Command) { x.At, x.Party, x.Class, x.Time = at(1, 1), 1, 0, 9 }),
		fill(api.Command{Kind: api.Book}, func(x *api.Command) { x.At, x.Party, x.Class = at(1, 1), 1, 0 }),
		fill(api.Command{Kind: api.Move}, func(x *api.Command) { x.At, x.To, x.Party = at(1, 1), at(2, 2), 1 }),
		fill(api.Command{Kind: api.Cancel}, func(x *api.Command) { x.At, x.Party = at(2, 2), 1 }),
		fill(api.Command{Kind: api.Block}, func(x *api.Command) { x.At = at(1, 1) }),
		fill(api.Command{Kind: api.Unblock}, func(x *api.Command) { x.At = at(1, 1) }),
		fill(api.Command{Kind: api.Tick}, func(x *api.Command) { x.Flight, x.Time = far, 1 }),
		fill(api.Command{Kind: api.Swap}, func(x *api.Command) { x.Plane = plane(1, 2, 1, -1, far, 3, 300) }),
	)
	wantCount(t, k, 3, api.Totals{Front: [4]int{2}})
	wantLeft(t, k, 3, [4]int{2, 0, 0, 0})
}

func TestP7Tick(t *testing.T) {
	k := open(t)
	refuse(t, k, step{api.ErrTime, tick(0)}, step{api.ErrTime, tick(-1)}, step{api.ErrTime, tick(api.MaxAhead + 1)}, step{api.ErrTime, tick(far)}, step{api.ErrTime, tick(-far)})
	run(t, k,
		step{api.OK, add(1, plane(2, 2, 1, 4, 4, 4, 4))},
		step{api.OK, add(20, plane(1, 2, 0, 2))},
		step{api.OK, hold(1, at(1, 1), 3, 0, 3)},
		step{api.OK, hold(1, at(1, 2), 3, 1, 4)},
		step{api.OK, hold(1, at(2, 1), 3, 2, 5)},
		step{api.OK, book(1, at(2, 2), 3, 3)},
		step{api.OK, hold(20, at(1, 1), 3, 0, 4)},
		step{api.OK, block(20, at(1, 2))},
		step{api.OK, tick(2)},
	)
	wantCount(t, k, 1, api.Totals{Front: [4]int{0, 2, 0, 0}, Rear: [4]int{0, 1, 1, 0}, Sold: [4]int{1, 1, 1, 1}})
	run(t, k, step{api.OK, tick(2)})
	wantNow(t, k, 4)
	wantCount(t, k, 1, api.Totals{Front: [4]int{2, 0, 0, 0}, Rear: [4]int{0, 1, 1, 0}, Sold: [4]int{0, 0, 1, 1}})
	wantCount(t, k, 20, api.Totals{Rear: [4]int{1, 0, 0, 1}})
	wantLeft(t, k, 1, [4]int{2, 2, 2, 2})
	run(t, k, step{api.OK, tick(api.MaxAhead)}, step{api.OK, hold(1, at(2, 1), 4, 0, 105)})
	wantNow(t, k, 104)
	wantCount(t, k, 1, api.Totals{Front: [4]int{2, 0, 0, 0}, Rear: [4]int{0, 1, 1, 0}, Sold: [4]int{1, 0, 0, 1}})
}

func TestP9Left(t *testing.T) {
	k := open(t)
	run(t, k,
		step{api.OK, add(1, plane(3, 4, 0, 12, 6, 3, 0))},
		step{api.OK, add(2, plane(1, 3, 0, 200, 200, 200, 200))},
		step{api.OK, add(3, plane(2, 5, 0, 10, 10, 9, 8))},
	)
	for _, class := range []int{-far, -1, api.Classes, far} {
		if v, e := k.Left(1, class); v != 0 || e != api.ErrClass {
			t.Errorf("Left(1, %d) = %d, %d", class, v, e)
		}
		if v, e := k.Left(4, class); v != 0 || e != api.ErrFlight {
			t.Errorf("Left(4, %d) = %d, %d", class, v, e)
		}
	}
	wantLeft(t, k, 1, [4]int{9, 6, 3, 0})
	wantLeft(t, k, 2, [4]int{3, 3, 3, 3})
	wantLeft(t, k, 3, [4]int{9, 9, 9, 8})
	// What is sold of a class counts against the limits of those ahead of it, not of those behind it.
	run(t, k, step{api.OK, book(1, at(1, 1), 1, 2)}, step{api.OK, book(1, at(1, 2), 1, 2)})
	wantLeft(t, k, 1, [4]int{9, 4, 1, 0})
	run(t, k, step{api.OK, book(1, at(1, 3), 1, 1)}, step{api.OK, hold(1, at(1, 4), 1, 1, 9)}, step{api.OK, book(1, at(2, 1), 1, 0)}, step{api.OK, book(1, at(2, 2), 1, 0)})
	wantLeft(t, k, 1, [4]int{6, 2, 1, 0})
	run(t, k, step{api.OK, book(1, at(2, 3), 1, 1)}, step{api.OK, book(1, at(2, 4), 1, 1)})
	wantLeft(t, k, 1, [4]int{4, 0, 0, 0})
	run(t, k, step{api.OK, block(1, at(3, 1))})
	wantLeft(t, k, 1, [4]int{3, 0, 0, 0})
}

func TestP9TotalsAreTheCallers(t *testing.T) {
	k := open(t)
	run(t, k, step{api.OK, add(1, plane(2, 1, 1, 2))})
	v, _ := k.Count(1)
	v.Front[api.Free], v.Sold[0] = 99, 99
	wantCount(t, k, 1, api.Totals{Front: [4]int{1}, Rear: [4]int{1}})
}

// TestExamples follows the document's examples but for the last one.
func TestExamples(t *testing.T) {
	k := open(t)
	run(t, k,
		step{api.OK, add(7, plane(2, 3, 1, 6, 4, 2, 0))},
		step{api.ErrTwice, add(7, plane(2, 3, 1, 6, 4, 2, 0))},
		step{api.ErrFlight, add(0, plane(2, 3, 1))},
		step{api.ErrShape, add(8, plane(0, 3, 0))},
		step{api.ErrShape, add(8, plane(2, 3, 1, 1, 2, 0, 0))},
	)
	wantLeft(t, k, 7, [4]int{6, 4, 2, 0})
	wantCount(t, k, 7, api.Totals{Front: [4]int{3}, Rear: [4]int{3}})
	run(t, k, step{api.OK, hold(7, at(1, 1), 5, 2, 10)})
	wantLeft(t, k, 7, [4]int{5, 3, 1, 0})
	run(t, k,
		step{api.ErrTaken, hold(7, at(1, 1), 6, 0, 10)},
		step{api.ErrSeat, hold(7, at(3, 1), 6, 0, 10)},
		step{api.ErrLimit, hold(7, at(1, 2), 6, 3, 10)},
		step{api.ErrTime, hold(7, at(1, 2), 6, 0, 0)},
		step{api.ErrTime, hold(7, at(1, 2), 6, 0, 101)},
		step{api.OK, book(7, at(1, 1), 5, 2)},
		step{api.ErrTaken, book(7, at(1, 1), 5, 1)},
		step{api.OK, book(7, at(2, 3), 9, 0)},
	)
	wantLeft(t, k, 7, [4]int{4, 3, 1, 0})
	run(t, k,
		step{api.ErrParty, cancel(7, at(1, 1), 6)},
		step{api.ErrState, cancel(7, at(1, 2), 6)},
		step{api.OK, move(7, at(2, 3), at(1, 2), 9)},
		step{api.ErrTaken, move(7, at(1, 2), at(1, 2), 9)},
		step{api.OK, hold(7, at(2, 1), 3, 0, 4)},
		step{api.OK, tick(3)},
	)
	wantCount(t, k, 7, api.Totals{Front: [4]int{1, 0, 2, 0}, Rear: [4]int{2, 1, 0, 0}, Sold: [4]int{2, 0, 1, 0}})
	run(t, k, step{api.OK, tick(1)})
	wantCount(t, k, 7, api.Totals{Front: [4]int{1, 0, 2, 0}, Rear: [4]int{3, 0, 0, 0}, Sold: [4]int{1, 0, 1, 0}})
	wantPage(t, k, 7, api.Cursor{}, 2, "1,1:2:5:2:0 1,2:2:9:0:0", cursor(1, 2, 7), true)
	wantPage(t, k, 7, cursor(1, 2, 7), 10, "1,3 2,1 2,2 2,3", cursor(2, 3, 7), false)
	run(t, k, step{api.OK, block(7, at(2, 2))})
	wantNoPage(t, k, 7, cursor(1, 2, 7), 10, api.ErrStale)
	run(t, k, step{api.OK, swap(7, plane(1, 4, 0))}, step{api.ErrShape, swap(7, plane(1, 2, 0))})
	wantSeats(t, k, 7, "1,1:2:5:2:0 1,2:2:9:0:0 1,3:3:0:0:0 1,4", 9)
}

// TestExampleOfFollow follows the last of the document's examples.
func TestExampleOfFollow(t *testing.T) {
	on := tape.New(100000)
	k, e := berth.Open(on)
	if e != api.OK {
		t.Fatalf("Open = %d", e)
	}
	run(t, k, step{api.OK, add(7, plane(2, 3, 1, 6, 4, 2, 0))}, step{api.OK, book(7, at(1, 1), 5, 2)})
	wantNews(t, k, 0, 3, "! 7.0=5 7.1=3 7.2=1 +")
	wantNews(t, k, 0, 3, "7.3=0 ")
	wantNews(t, k, 0, 3, "")
	run(t, k, step{api.OK, cancel(7, at(1, 1), 5)})
	wantNews(t, k, 0, 3, "7.0=6 7.1=4 7.2=2 ")
	k, e = berth.Open(on)
	if e != api.OK {
		t.Fatalf("Open = %d", e)
	}
	wantNews(t, k, 0, 50, allNews(k))
}
