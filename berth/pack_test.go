package berth_test

import (
	"testing"

	"berth/api"
	"berth/berth"
	"berth/tape"
)

func wantPack(t *testing.T, k *berth.Keeper, want api.Errno) {
	t.Helper()
	if e := k.Pack(); e != want {
		t.Errorf("Pack = %d, want %d", e, want)
	}
}

// weigh tells the weight of what a keeper keeps, in the words of P13.
func weigh(k *berth.Keeper) int {
	n := api.FileRoom
	for flight := 1; flight <= api.MaxFlight; flight++ {
		v, e := k.Count(flight)
		if e != api.OK {
			continue
		}
		n += api.FlightRoom
		for state := api.Held; state <= api.Blocked; state++ {
			n += api.SeatRoom * (v.Front[state] + v.Rear[state])
		}
	}
	return n
}

// wantPacked packs, and looks whether the tape is short, and whether all is told as it was, by this keeper and by one that is opened anew.
func wantPacked(t *testing.T, k *berth.Keeper, x *tape.Tape) {
	t.Helper()
	want, before := look(k), length(x)
	wantPack(t, k, api.OK)
	if n := length(x); n > before || n > weigh(k) {
		t.Errorf("the tape has %d bytes, had %d, and the weight is %d", n, before, weigh(k))
	}
	if look(k) != want || lookOn(t, x) != want {
		t.Error("a Pack changed what is told")
	}
	x.Fall([]int{9, 9}, 1)
	n := length(x)
	wantPack(t, k, api.OK)
	if length(x) != n {
		t.Errorf("packed twice the tape has %d bytes, packed once %d", length(x), n)
	}
	if lookOn(t, x) != want {
		t.Error("a Pack did not last")
	}
}

func TestP12PackBehindEachCommand(t *testing.T) {
	once, often := tape.New(100000), tape.New(100000)
	a, b := openOn(t, once), openOn(t, often)
	wantPacked(t, b, often)
	if length(often) != 0 {
		t.Errorf("the tape of a keeper of nothing has %d bytes", length(often))
	}
	for _, c := range history() {
		run(t, a, step{api.OK, c})
		run(t, b, step{api.OK, c})
		wantPacked(t, b, often)
		if look(a) != look(b) {
			t.Fatal("a keeper that packs tells something else than one that does not")
		}
		if x := once.Copy(); openOn(t, x).Pack() != api.OK || length(x) != length(often) {
			t.Errorf("packed once the tape has %d bytes, packed often %d", length(x), length(often))
		}
	}
}

// What is on the tape hangs on what there is, not on what there has been.
func TestP12TapeIsShort(t *testing.T) {
	x := tape.New(1 << 20)
	k := openOn(t, x)
	run(t, k, step{api.OK, add(3, plane(2, 3, 1, 6, 6, 6, 6))})
	wantPacked(t, k, x)
	few := length(x)
	for i := range 500 {
		run(t, k, step{api.OK, hold(3, at(1, 1+i%3), 5, 1, k.Now()+2)}, step{api.OK, tick(1)}, step{api.OK, cancel(3, at(1, 1+i%3), 5)})
	}
	wantPacked(t, k, x)
	// The time and the epoch are greater; nothing else is more.
	if n := length(x); n > few+12 {
		t.Errorf("behind changes that left nothing the tape has %d bytes, and had %d", n, few)
	}
	for n := 1; n <= api.MaxFlight; n++ {
		if n != 3 {
			run(t, k, step{api.OK, add(n, plane(20, 6, 20, 200, 200, 200, 200))})
		}
		for i := range 6 {
			k.Do(hold(n, at(1, 1+i), api.MaxParty, i%4, k.Now()+100))
			k.Do(book(n, at(2, 1+i), api.MaxParty, i%4))
			k.Do(block(n, at(3, 1+i)))
		}
		wantPacked(t, k, x)
	}
}

func TestP12PackChangesNothingThatIsTold(t *testing.T) {
	k := open(t)
	run(t, k,
		step{api.OK, add(7, plane(2, 3, 1, 6, 4, 2, 0))},
		step{api.OK, hold(7, at(1, 1), 5, 2, 10)},
		step{api.OK, add(2, plane(1, 1, 0, 1))},
		step{api.OK, tick(4)},
	)
	wantNews(t, k, 0, 3, "! 2.0=1 2.1=0 2.2=0 +")
	c := wantPage(t, k, 7, api.Cursor{}, 2, "1,1:1:5:2:10 1,2", cursor(1, 2, 2), true)
	wantPack(t, k, api.OK)
	// Cursors and followers go on as if nothing had been.
	wantPage(t, k, 7, c, 2, "1,3 2,1", cursor(2, 1, 2), true)
	wantNews(t, k, 0, 50, "2.3=0 7.0=5 7.1=3 7.2=1 7.3=0 ")
	wantNews(t, k, 1, 1, "! 2.0=1 +")
	run(t, k, step{api.OK, book(7, at(1, 1), 5, 2)}, step{api.ErrLimit, book(7, at(1, 2), 5, 3)}, step{api.OK, tick(100)})
	wantSeats(t, k, 7, "1,1:2:5:2:0 1,2 1,3 2,1 2,2 2,3", 3)
	wantNow(t, k, 104)
}

// What held seats, limits, time and epochs are behind a Pack is seen only in what comes later.
func TestP12ChangesBehindAPackAndAnOpen(t *testing.T) {
	x, y := tape.New(100000), tape.New(100000)
	a, b := openOn(t, x), openOn(t, y)
	for _, c := range history() {
		run(t, a, step{api.OK, c})
		wantPack(t, a, api.OK)
		a = openOn(t, x)
		run(t, b, step{api.OK, c})
		if look(a) != look(b) {
			t.Fatalf("behind %+v a keeper that was packed and opened anew tells something else", c)
		}
	}
}

// Pieces of records are gone behind a Pack.
func TestP12PackBehindADeath(t *testing.T) {
	for i, c := range history() {
		x := tapeBehind(t, history()[:i])
		packed := map[view]int{}
		for y := range fates(t, x, doing(c), fewSpoils) {
			k := openOn(t, y)
			wantPacked(t, k, y)
			if n, seen := packed[look(k)]; seen && n != length(y) {
				t.Errorf("command %d: packed the tape has %d bytes, and another that tells the same has %d", i, length(y), n)
			}
			packed[look(k)] = length(y)
		}
	}
}

func TestP12Refusals(t *testing.T) {
	x := tape.New(api.FileRoom)
	k := openOn(t, x)
	run(t, k, step{api.OK, add(1, plane(20, 6, 0, 200))})
	for i := 0; k.Do(book(1, at(1+i/6, 1+i%6), 1000, 0)) == api.OK; i++ {
	}
	want, n := look(k), length(x)
	// No room is left for the other half; a dead tape is seen only where there is room.
	for _, fuse := range []int{-1, 0} {
		x.Fuse(fuse)
		wantPack(t, k, api.ErrSpace)
		if look(k) != want || length(x) != n {
			t.Error("a Pack that was refused changed something")
		}
	}
	x.Fuse(-1)
	if lookOn(t, x) != want {
		t.Error("a Pack that was refused changed what is told")
	}
	y := tapeBehind(t, history())
	k = openOn(t, y)
	y.Fuse(0)
	wantPack(t, k, api.ErrDead)
	wantPack(t, k, api.ErrShut)
	run(t, k, step{api.ErrShut, tick(1)})
	var none *berth.Keeper
	wantPack(t, none, api.ErrShut)
}

// The last bytes that there is room for are laid, and then the tape dies.
func TestP5ShutComesAheadOfSpace(t *testing.T) {
	x := tape.New(api.FileRoom)
	k := openOn(t, x)
	n := ticksOn(t, k)
	x = tape.New(api.FileRoom)
	k = openOn(t, x)
	for range n - 1 {
		run(t, k, step{api.OK, tick(1)})
	}
	x.Fuse(1)
	run(t, k, step{api.ErrDead, tick(1)}, step{api.ErrShut, tick(1)}, step{api.ErrShut, add(1, plane(1, 1, 0))})
	wantPack(t, k, api.ErrShut)
	x.Fuse(-1)
	run(t, openOn(t, x), step{api.ErrSpace, tick(1)})
}
