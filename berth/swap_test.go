package berth_test

import (
	"testing"

	"berth/api"
	"berth/berth"
)

// sold gives a keeper with flight 4 of three rows of three seats: four are not free, at the epoch 5.
func sold(t *testing.T) *berth.Keeper {
	t.Helper()
	k := open(t)
	run(t, k,
		step{api.OK, add(4, plane(3, 3, 1, 9, 8, 7, 6))},
		step{api.OK, hold(4, at(3, 3), 1, 3, 50)},
		step{api.OK, hold(4, at(2, 3), 2, 2, 60)},
		step{api.OK, book(4, at(1, 1), 3, 1)},
		step{api.OK, block(4, at(2, 1))},
	)
	return k
}

func TestP8SwapRefusals(t *testing.T) {
	k := sold(t)
	refuse(t, k, step{api.ErrFlight, swap(5, plane(3, 3, 0))}, step{api.ErrFlight, swap(5, plane(0, 0, 0))}, step{api.ErrFlight, swap(0, plane(3, 3, 0))})
	for _, p := range []api.Plane{
		plane(0, 6, 0), plane(-1, -6, -1), plane(api.MaxRows+1, 1, 0), plane(far, 4, 0),
		plane(4, 0, 0), plane(4, -1, 0), plane(4, api.MaxCols+1, 0), plane(1, far, 0), plane(far, far, far),
		plane(3, 3, -1), plane(3, 3, 4), plane(3, 3, far), plane(3, 3, -far),
		plane(1, 1, 0), plane(3, 1, 0), plane(1, 3, 1),
	} {
		refuse(t, k, step{api.ErrShape, swap(4, p)})
	}
	wantSeats(t, k, 4, "1,1:2:3:1:0 1,2 1,3 2,1:3:0:0:0 2,2 2,3:1:2:2:60 3,1 3,2 3,3:1:1:3:50", 5)
}

func TestP8SwapMakesRoomForThoseWithoutASeat(t *testing.T) {
	for _, x := range []struct {
		p      api.Plane
		seats  string
		totals api.Totals
		left   [4]int
	}{
		// As many seats as are not free: they go in the order of their places, behind those who stay.
		{plane(2, 2, 1), "1,1:2:3:1:0 1,2:1:2:2:60 2,1:3:0:0:0 2,2:1:1:3:50", api.Totals{Front: [4]int{0, 1, 1, 0}, Rear: [4]int{0, 1, 0, 1}}, [4]int{}},
		{plane(1, 4, 0), "1,1:2:3:1:0 1,2:3:0:0:0 1,3:1:2:2:60 1,4:1:1:3:50", api.Totals{Rear: [4]int{0, 2, 1, 1}}, [4]int{}},
		{plane(4, 1, 4), "1,1:2:3:1:0 2,1:3:0:0:0 3,1:1:2:2:60 4,1:1:1:3:50", api.Totals{Front: [4]int{0, 2, 1, 1}}, [4]int{}},
		// One of those who stay is behind one who looks for a seat.
		{plane(3, 2, 2), "1,1:2:3:1:0 1,2:1:2:2:60 2,1:3:0:0:0 2,2:1:1:3:50 3,1 3,2", api.Totals{Front: [4]int{0, 2, 1, 1}, Rear: [4]int{2, 0, 0, 0}}, [4]int{2, 2, 2, 2}},
		{plane(2, 3, 0), "1,1:2:3:1:0 1,2:1:1:3:50 1,3 2,1:3:0:0:0 2,2 2,3:1:2:2:60", api.Totals{Rear: [4]int{2, 2, 1, 1}}, [4]int{2, 2, 2, 2}},
		// All stay.
		{plane(3, 3, 1), "1,1:2:3:1:0 1,2 1,3 2,1:3:0:0:0 2,2 2,3:1:2:2:60 3,1 3,2 3,3:1:1:3:50", api.Totals{Front: [4]int{2, 0, 1, 0}, Rear: [4]int{3, 2, 0, 1}}, [4]int{5, 5, 5, 5}},
		{plane(3, 4, 3), "1,1:2:3:1:0 1,2 1,3 1,4 2,1:3:0:0:0 2,2 2,3:1:2:2:60 2,4 3,1 3,2 3,3:1:1:3:50 3,4", api.Totals{Front: [4]int{8, 2, 1, 1}}, [4]int{6, 5, 5, 5}},
	} {
		k := sold(t)
		run(t, k, step{api.OK, swap(4, x.p)})
		wantSeats(t, k, 4, x.seats, 6)
		x.totals.Sold = [4]int{0, 1, 1, 1}
		wantCount(t, k, 4, x.totals)
		wantLeft(t, k, 4, x.left)
	}
}

func TestP8SwapKeepsTheLimits(t *testing.T) {
	k := open(t)
	run(t, k, step{api.OK, add(1, plane(1, 2, 0, 5, 4, 3, 2))})
	for i, p := range []api.Plane{plane(2, 4, 0), plane(2, 4, 0, 9, 9, 9, 9), plane(2, 4, 0, 1, 2, 3, 4), plane(2, 4, 0, -far, far)} {
		run(t, k, step{api.OK, swap(1, p)})
		wantLeft(t, k, 1, [4]int{5, 4, 3, 2})
		wantSeats(t, k, 1, "1,1 1,2 1,3 1,4 2,1 2,2 2,3 2,4", i+2)
	}
}

func TestP8FlightGoesOnInItsNewPlane(t *testing.T) {
	k := sold(t)
	run(t, k,
		step{api.OK, swap(4, plane(3, 2, 2))},
		step{api.ErrSeat, book(4, at(2, 3), 2, 2)},
		step{api.ErrSeat, move(4, at(1, 1), at(1, 3), 3)},
		step{api.OK, book(4, at(1, 2), 2, 2)},
		step{api.OK, move(4, at(1, 1), at(3, 2), 3)},
		step{api.OK, unblock(4, at(2, 1))},
		step{api.OK, tick(49)},
	)
	wantSeats(t, k, 4, "1,1 1,2:2:2:2:0 2,1 2,2:1:1:3:50 3,1 3,2:2:3:1:0", 9)
	run(t, k, step{api.OK, tick(1)}, step{api.OK, swap(4, plane(1, 2, 0))}, step{api.ErrShape, swap(4, plane(1, 1, 0))})
	wantSeats(t, k, 4, "1,1:2:3:1:0 1,2:2:2:2:0", 11)
}

func TestP8BackAndForth(t *testing.T) {
	k := open(t)
	run(t, k, step{api.OK, add(1, plane(api.MaxRows, api.MaxCols, 0, 200))})
	for col := 1; col <= api.MaxCols; col++ {
		run(t, k, step{api.OK, book(1, at(api.MaxRows, col), col, 0)})
	}
	run(t, k, step{api.OK, swap(1, plane(1, 6, 0))})
	wantSeats(t, k, 1, "1,1:2:1:0:0 1,2:2:2:0:0 1,3:2:3:0:0 1,4:2:4:0:0 1,5:2:5:0:0 1,6:2:6:0:0", 8)
	run(t, k, step{api.OK, swap(1, plane(6, 1, 6))})
	wantSeats(t, k, 1, "1,1:2:1:0:0 2,1:2:2:0:0 3,1:2:3:0:0 4,1:2:4:0:0 5,1:2:5:0:0 6,1:2:6:0:0", 9)
	run(t, k, step{api.OK, swap(1, plane(api.MaxRows, api.MaxCols, api.MaxRows))})
	wantCount(t, k, 1, api.Totals{Front: [4]int{114, 0, 6, 0}, Sold: [4]int{6}})
}
