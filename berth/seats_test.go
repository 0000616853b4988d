package berth_test

import (
	"testing"

	"berth/api"
)

func TestP10Refusals(t *testing.T) {
	k := sold(t)
	for _, n := range []int{-far, -1, 0, 1, 3, 5, api.MaxFlight, api.MaxFlight + 1, far} {
		wantNoPage(t, k, n, api.Cursor{}, 1, api.ErrFlight)
		wantNoPage(t, k, n, cursor(9, 9, 9), 0, api.ErrFlight)
	}
	for _, size := range []int{-far, -1, 0, api.MaxPage + 1, far} {
		wantNoPage(t, k, 4, api.Cursor{}, size, api.ErrPage)
		wantNoPage(t, k, 4, cursor(1, 1, 4), size, api.ErrPage)
		wantNoPage(t, k, 4, cursor(9, 9, 5), size, api.ErrPage)
	}
	for _, epoch := range []int{-far, -1, 1, 4, 6, far} {
		wantNoPage(t, k, 4, cursor(0, 0, epoch), 1, api.ErrStale)
		wantNoPage(t, k, 4, cursor(1, 1, epoch), 1, api.ErrStale)
		wantNoPage(t, k, 4, cursor(4, 1, epoch), 1, api.ErrStale)
	}
	// Nothing but the empty cursor is empty.
	wantNoPage(t, k, 4, cursor(1, 1, 0), 1, api.ErrStale)
	wantNoPage(t, k, 4, cursor(1, 0, 0), 1, api.ErrStale)
	wantNoPage(t, k, 4, cursor(0, 1, 0), 1, api.ErrStale)
	for _, p := range []api.Place{{}, at(0, 1), at(1, 0), at(-1, 1), at(1, -1), at(4, 1), at(1, 4), at(far, 1), at(1, far), at(-far, -far), at(far, far)} {
		wantNoPage(t, k, 4, api.Cursor{At: p, Epoch: 5}, 1, api.ErrSeat)
	}
}

func TestP10Pages(t *testing.T) {
	k := sold(t)
	all := "1,1:2:3:1:0 1,2 1,3 2,1:3:0:0:0 2,2 2,3:1:2:2:60 3,1 3,2 3,3:1:1:3:50"
	for _, size := range []int{9, 10, api.MaxPage} {
		wantPage(t, k, 4, api.Cursor{}, size, all, cursor(3, 3, 5), false)
	}
	c := wantPage(t, k, 4, api.Cursor{}, 4, "1,1:2:3:1:0 1,2 1,3 2,1:3:0:0:0", cursor(2, 1, 5), true)
	wantPage(t, k, 4, c, 4, "2,2 2,3:1:2:2:60 3,1 3,2", cursor(3, 2, 5), true)
	c = wantPage(t, k, 4, c, 5, "2,2 2,3:1:2:2:60 3,1 3,2 3,3:1:1:3:50", cursor(3, 3, 5), false)
	wantPage(t, k, 4, c, 1, "", cursor(3, 3, 5), false)
	wantPage(t, k, 4, c, api.MaxPage, "", cursor(3, 3, 5), false)
	wantPage(t, k, 4, cursor(3, 2, 5), 1, "3,3:1:1:3:50", cursor(3, 3, 5), false)
	wantPage(t, k, 4, cursor(1, 3, 5), 1, "2,1:3:0:0:0", cursor(2, 1, 5), true)

	run(t, k, step{api.OK, add(20, plane(api.MaxRows, api.MaxCols, 3, 9))}, step{api.OK, add(1, plane(1, 1, 0))})
	c = api.Cursor{}
	for i := 1; i <= 4; i++ {
		p, e := k.Seats(20, c, api.MaxPage)
		if len(p.Seats) != api.MaxPage || p.Next != cursor(5*i, 6, 1) || p.More != (i < 4) || e != api.OK {
			t.Errorf("page %d: %v, %d", i, p, e)
		}
		c = p.Next
	}
	wantPage(t, k, 1, api.Cursor{}, 1, "1,1", cursor(1, 1, 1), false)
}

// Whether a seat that was held and is not has still something of what it was.
func TestP10SeatTellsWhatItHasByItsStateAlone(t *testing.T) {
	k := open(t)
	run(t, k,
		step{api.OK, add(1, plane(1, 5, 0, 9, 9, 9, 9))},
		step{api.OK, hold(1, at(1, 1), 7, 3, 10)},
		step{api.OK, book(1, at(1, 1), 7, 3)},
		step{api.OK, hold(1, at(1, 2), 7, 3, 10)},
		step{api.OK, cancel(1, at(1, 2), 7)},
		step{api.OK, hold(1, at(1, 3), 7, 3, 10)},
		step{api.OK, move(1, at(1, 3), at(1, 4), 7)},
		step{api.OK, block(1, at(1, 3))},
		step{api.OK, hold(1, at(1, 5), 7, 3, 1)},
		step{api.OK, tick(1)},
	)
	wantSeats(t, k, 1, "1,1:2:7:3:0 1,2 1,3:3:0:0:0 1,4:1:7:3:10 1,5", 10)
	odd := api.Command{Kind: api.Block, Flight: 1, At: at(1, 2), To: at(1, 1), Party: 9, Class: 2, Time: 50}
	run(t, k, step{api.OK, odd})
	odd.Kind, odd.At = api.Book, at(1, 5)
	run(t, k, step{api.OK, odd})
	wantSeats(t, k, 1, "1,1:2:7:3:0 1,2:3:0:0:0 1,3:3:0:0:0 1,4:1:7:3:10 1,5:2:9:2:0", 12)
}

func TestP10EpochCountsChanges(t *testing.T) {
	k := open(t)
	epoch := map[int]int{}
	for i, x := range []struct {
		c         api.Command
		one, two  int // by how much the epochs of flights 1 and 2 grow
		wantErrno api.Errno
	}{
		{add(1, plane(1, 4, 0, 9, 9, 9, 9)), 1, 0, api.OK},
		{add(1, plane(1, 4, 0, 9, 9, 9, 9)), 0, 0, api.ErrTwice},
		{add(2, plane(1, 4, 0, 9, 9, 9, 9)), 0, 1, api.OK},
		{hold(1, at(1, 1), 5, 0, 3), 1, 0, api.OK},
		{hold(1, at(1, 2), 5, 0, 3), 1, 0, api.OK},
		{hold(1, at(1, 2), 5, 0, 3), 0, 0, api.ErrTaken},
		{hold(2, at(1, 1), 5, 1, 3), 0, 1, api.OK},
		{hold(2, at(1, 2), 5, 0, 4), 0, 1, api.OK},
		{tick(2), 0, 0, api.OK},
		{tick(1), 1, 1, api.OK},
		{tick(1), 0, 1, api.OK},
		{tick(100), 0, 0, api.OK},
		{tick(101), 0, 0, api.ErrTime},
		{book(2, at(1, 1), 5, 1), 0, 1, api.OK},
		{move(2, at(1, 1), at(1, 2), 5), 0, 1, api.OK},
		{move(2, at(1, 2), at(1, 2), 5), 0, 0, api.ErrTaken},
		{cancel(2, at(1, 2), 5), 0, 1, api.OK},
		{cancel(2, at(1, 2), 5), 0, 0, api.ErrState},
		{block(2, at(1, 2)), 0, 1, api.OK},
		{unblock(2, at(1, 2)), 0, 1, api.OK},
		{swap(2, plane(1, 4, 0)), 0, 1, api.OK},
		{swap(2, plane(2, 2, 1)), 0, 1, api.OK},
		{swap(2, plane(2, 2, 3)), 0, 0, api.ErrShape},
	} {
		run(t, k, step{x.wantErrno, x.c})
		epoch[1] += x.one
		epoch[2] += x.two
		for n, want := range epoch {
			if want == 0 {
				continue
			}
			if p, e := k.Seats(n, api.Cursor{}, 1); p.Next.Epoch != want || e != api.OK {
				t.Errorf("step %d: the epoch of %d is %d, %d; want %d", i, n, p.Next.Epoch, e, want)
			}
		}
	}
}

func TestP10CursorIsStaleBehindAChangeOfItsFlightAlone(t *testing.T) {
	k := sold(t)
	run(t, k, step{api.OK, add(1, plane(1, 1, 0, 1))})
	c := wantPage(t, k, 4, api.Cursor{}, 1, "1,1:2:3:1:0", cursor(1, 1, 5), true)
	run(t, k,
		step{api.OK, book(1, at(1, 1), 1, 0)},
		step{api.OK, tick(1)},
		step{api.ErrTaken, block(4, at(1, 1))},
		step{api.ErrShape, swap(4, plane(1, 1, 0))},
	)
	wantPage(t, k, 4, c, 1, "1,2", cursor(1, 2, 5), true)
	run(t, k, step{api.OK, swap(4, plane(3, 3, 1))})
	wantNoPage(t, k, 4, c, 1, api.ErrStale)
	wantPage(t, k, 4, cursor(1, 1, 6), 1, "1,2", cursor(1, 2, 6), true)
}

func TestP2PagesAreTheCallers(t *testing.T) {
	k := sold(t)
	a, _ := k.Seats(4, api.Cursor{}, 5)
	b, _ := k.Seats(4, api.Cursor{}, 5)
	c, _ := k.Seats(4, a.Next, 5)
	wantB, wantC := spell(b.Seats), spell(c.Seats)
	spare := a.Seats[:cap(a.Seats)]
	for i := range spare {
		spare[i] = api.Seat{At: at(99, 99), State: 9, Party: 9, Class: 9, Until: 9}
	}
	if spell(b.Seats) != wantB || spell(c.Seats) != wantC {
		t.Errorf("writing into a page changed another one: %v, %v", b, c)
	}
	wantSeats(t, k, 4, "1,1:2:3:1:0 1,2 1,3 2,1:3:0:0:0 2,2 2,3:1:2:2:60 3,1 3,2 3,3:1:1:3:50", 5)
	run(t, k, step{api.OK, cancel(4, at(1, 1), 3)}, step{api.OK, swap(4, plane(2, 2, 0))}, step{api.OK, tick(100)})
	if spell(b.Seats) != wantB || spell(c.Seats) != wantC {
		t.Errorf("later calls changed a page: %v, %v", b, c)
	}
}
