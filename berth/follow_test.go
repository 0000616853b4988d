package berth_test

import (
	"strconv"
	"testing"

	"berth/api"
	"berth/berth"
	"berth/tape"
)

// spellNews writes a bulletin as a text: "! " ahead of what is fresh, "+" where there is more.
func spellNews(b api.Bulletin) string {
	s := ""
	if b.Fresh {
		s = "! "
	}
	for _, n := range b.News {
		s += strconv.Itoa(n.Flight) + "." + strconv.Itoa(n.Class) + "=" + strconv.Itoa(n.Left) + " "
	}
	if b.More {
		s += "+"
	}
	return s
}

// wantNews looks at a bulletin (as spellNews writes it).
func wantNews(t *testing.T, k *berth.Keeper, follower, most int, want string) {
	t.Helper()
	b, e := k.Follow(follower, most)
	if spellNews(b) != want || e != api.OK {
		t.Errorf("Follow(%d, %d) = %s, %d; want %s", follower, most, spellNews(b), e, want)
	}
}

// wantNoNews looks whether a bulletin is refused.
func wantNoNews(t *testing.T, k *berth.Keeper, follower, most int, want api.Errno) {
	t.Helper()
	b, e := k.Follow(follower, most)
	if b.Fresh || len(b.News) != 0 || b.More || e != want {
		t.Errorf("Follow(%d, %d) = %s, %d; want nothing, %d", follower, most, spellNews(b), e, want)
	}
}

// allNews is what one who has been told nothing is told of all flights, without an end, as spellNews writes it.
func allNews(k *berth.Keeper) string {
	b := api.Bulletin{Fresh: true}
	for n := 1; n <= api.MaxFlight; n++ {
		for class := range api.Classes {
			if left, e := k.Left(n, class); e == api.OK {
				b.News = append(b.News, api.News{Flight: n, Class: class, Left: left})
			}
		}
	}
	return spellNews(b)
}

func TestP11Refusals(t *testing.T) {
	k := open(t)
	run(t, k, step{api.OK, add(1, plane(1, 1, 0, 1))})
	for _, follower := range []int{-far, -1, api.Followers, api.Followers + 1, far} {
		for _, most := range []int{-far, -1, 0, 1, api.MaxNews, api.MaxNews + 1, far} {
			wantNoNews(t, k, follower, most, api.ErrFollow)
		}
	}
	for _, follower := range []int{0, 1, api.Followers - 1} {
		for _, most := range []int{-far, -1, 0, api.MaxNews + 1, far} {
			wantNoNews(t, k, follower, most, api.ErrPage)
		}
		// What was refused was no bulletin: this is the first one, and has all news.
		wantNews(t, k, follower, 1, "! 1.0=1 +")
		wantNoNews(t, k, follower, 0, api.ErrPage)
		wantNews(t, k, follower, api.MaxNews, "1.1=0 1.2=0 1.3=0 ")
	}
}

func TestP11FirstBulletinIsFreshEvenWithoutNews(t *testing.T) {
	k := open(t)
	for _, follower := range []int{0, api.Followers - 1} {
		wantNews(t, k, follower, 1, "! ")
		wantNews(t, k, follower, 1, "")
	}
	run(t, k, step{api.OK, add(2, plane(1, 1, 0, 1))})
	wantNews(t, k, 0, 50, "2.0=1 2.1=0 2.2=0 2.3=0 ")
	wantNews(t, k, 1, 50, "! 2.0=1 2.1=0 2.2=0 2.3=0 ")
}

func TestP11MoreNewsThanMost(t *testing.T) {
	k := open(t)
	run(t, k, step{api.OK, add(5, plane(1, 4, 0, 4, 3, 2, 1))}, step{api.OK, add(2, plane(1, 2, 0, 2, 2, 2, 2))})
	wantNews(t, k, 0, 3, "! 2.0=2 2.1=2 2.2=2 +")
	wantNews(t, k, 0, 4, "2.3=2 5.0=4 5.1=3 5.2=2 +")
	wantNews(t, k, 0, 1, "5.3=1 ")
	wantNews(t, k, 0, 1, "")
	wantNews(t, k, 1, 7, "! 2.0=2 2.1=2 2.2=2 2.3=2 5.0=4 5.1=3 5.2=2 +")
	wantNews(t, k, 2, 8, "! 2.0=2 2.1=2 2.2=2 2.3=2 5.0=4 5.1=3 5.2=2 5.3=1 ")
	wantNews(t, k, 3, 4, "! 2.0=2 2.1=2 2.2=2 2.3=2 +")
	wantNews(t, k, 3, 4, "5.0=4 5.1=3 5.2=2 5.3=1 ")
	// What waits is told as it is when it is told, and what changed meanwhile comes in its order.
	wantNews(t, k, 4, 6, "! 2.0=2 2.1=2 2.2=2 2.3=2 5.0=4 5.1=3 +")
	run(t, k, step{api.OK, book(5, at(1, 1), 1, 3)}, step{api.OK, book(2, at(1, 1), 1, 0)})
	wantNews(t, k, 4, 5, "2.0=1 2.1=1 2.2=1 2.3=1 5.0=3 +")
	wantNews(t, k, 4, 3, "5.1=2 5.2=1 5.3=0 ")
	// What waits and is again what was told is no news.
	run(t, k, step{api.OK, book(2, at(1, 2), 1, 0)})
	wantNews(t, k, 4, 1, "2.0=0 +")
	run(t, k, step{api.OK, cancel(2, at(1, 2), 1)})
	wantNews(t, k, 4, 1, "2.0=1 ")
}

func TestP11AllFlights(t *testing.T) {
	k := open(t)
	for n := api.MaxFlight; n >= 1; n-- {
		run(t, k, step{api.OK, add(n, plane(1, 1+n%6, 0, n, n/2, n/4, n/8))})
	}
	b, e := k.Follow(0, api.MaxNews)
	if e != api.OK || len(b.News) != api.MaxNews || !b.Fresh || !b.More {
		t.Fatalf("the first bulletin is %s, %d", spellNews(b), e)
	}
	c, e := k.Follow(0, api.MaxNews)
	if e != api.OK || len(c.News) != api.MaxFlight*api.Classes-api.MaxNews || c.Fresh || c.More {
		t.Fatalf("the second bulletin is %s, %d", spellNews(c), e)
	}
	all := spellNews(api.Bulletin{Fresh: true, News: append(b.News, c.News...)})
	if all != allNews(k) {
		t.Errorf("the news are %s, want %s", all, allNews(k))
	}
	wantNews(t, k, 0, api.MaxNews, "")
}

func TestP11WhatIsLeftAboveMostTold(t *testing.T) {
	k := open(t)
	run(t, k, step{api.OK, add(9, plane(2, 6, 0, 12, 10, 9, 8))})
	wantNews(t, k, 0, 50, "! 9.0=9 9.1=9 9.2=9 9.3=8 ")
	run(t, k, step{api.OK, book(9, at(1, 1), 1, 1)})
	// Of class 0 11 are left, of class 1 9: both are told as before.
	wantNews(t, k, 0, 50, "")
	run(t, k, step{api.OK, book(9, at(1, 2), 1, 0)}, step{api.OK, block(9, at(1, 3))})
	wantNews(t, k, 0, 50, "")
	run(t, k, step{api.OK, book(9, at(1, 4), 1, 0)})
	wantNews(t, k, 0, 50, "9.0=8 9.1=8 9.2=8 ")
	run(t, k, step{api.OK, cancel(9, at(1, 4), 1)}, step{api.OK, unblock(9, at(1, 3))})
	wantNews(t, k, 0, 50, "9.0=9 9.1=9 9.2=9 ")
}

func TestP11ChangesThatLeaveWhatIsTold(t *testing.T) {
	k := open(t)
	run(t, k, step{api.OK, add(7, plane(2, 3, 1, 4, 3, 1, 0))})
	wantNews(t, k, 0, 50, "! 7.0=4 7.1=3 7.2=1 7.3=0 ")
	run(t, k,
		step{api.OK, block(7, at(1, 1))},
		step{api.OK, swap(7, plane(5, 1, 5))},
		step{api.OK, tick(1)},
		step{api.ErrLimit, book(7, at(2, 1), 1, 3)},
	)
	wantNews(t, k, 0, 50, "")
	run(t, k, step{api.OK, book(7, at(2, 1), 1, 0)})
	wantNews(t, k, 0, 50, "7.0=3 ")
	run(t, k, step{api.OK, move(7, at(2, 1), at(3, 1), 1)})
	wantNews(t, k, 0, 50, "")
	// What changes and changes back between two bulletins is no news.
	run(t, k, step{api.OK, hold(7, at(4, 1), 2, 2, 5)}, step{api.OK, cancel(7, at(4, 1), 2)})
	wantNews(t, k, 0, 50, "")
	run(t, k, step{api.OK, hold(7, at(4, 1), 2, 2, 5)}, step{api.OK, tick(10)})
	wantNews(t, k, 0, 50, "")
	run(t, k, step{api.OK, hold(7, at(4, 1), 2, 2, 15)})
	wantNews(t, k, 0, 50, "7.0=2 7.1=2 7.2=0 ")
	run(t, k, step{api.OK, book(7, at(4, 1), 2, 2)})
	wantNews(t, k, 0, 50, "")
	run(t, k, step{api.OK, swap(7, plane(1, 3, 0))})
	wantNews(t, k, 0, 50, "7.0=0 7.1=0 ")
}

func TestP11TickAndSwapAreNews(t *testing.T) {
	k := open(t)
	run(t, k,
		step{api.OK, add(1, plane(1, 2, 0, 2, 2))}, step{api.OK, add(2, plane(1, 2, 0, 2, 2))},
		step{api.OK, hold(1, at(1, 1), 1, 1, 3)}, step{api.OK, hold(2, at(1, 1), 1, 0, 4)},
	)
	wantNews(t, k, 0, 50, "! 1.0=1 1.1=1 1.2=0 1.3=0 2.0=1 2.1=1 2.2=0 2.3=0 ")
	run(t, k, step{api.OK, tick(3)})
	wantNews(t, k, 0, 50, "1.0=2 1.1=2 ")
	run(t, k, step{api.OK, tick(1)}, step{api.OK, swap(1, plane(1, 1, 0))})
	wantNews(t, k, 0, 50, "1.0=1 1.1=1 2.0=2 2.1=2 ")
}

func TestP11FlightsAddedBetweenTwoBulletins(t *testing.T) {
	k := open(t)
	run(t, k, step{api.OK, add(7, plane(1, 1, 0))})
	wantNews(t, k, 0, 50, "! 7.0=0 7.1=0 7.2=0 7.3=0 ")
	run(t, k, step{api.OK, add(20, plane(1, 1, 0))}, step{api.OK, add(1, plane(1, 1, 0, 1, 1, 1))})
	wantNews(t, k, 0, 2, "1.0=1 1.1=1 +")
	run(t, k, step{api.OK, add(3, plane(1, 1, 0))})
	// That nothing is left is news of a class of which nothing was told.
	wantNews(t, k, 0, 50, "1.2=1 1.3=0 3.0=0 3.1=0 3.2=0 3.3=0 20.0=0 20.1=0 20.2=0 20.3=0 ")
	wantNews(t, k, 0, 50, "")
}

func TestP11FollowersDoNotChangeOneAnother(t *testing.T) {
	k, other := open(t), open(t)
	run(t, k, step{api.OK, add(1, plane(1, 2, 0, 2))})
	run(t, other, step{api.OK, add(1, plane(1, 2, 0, 2))})
	for follower := range api.Followers {
		wantNews(t, k, follower, 50, "! 1.0=2 1.1=0 1.2=0 1.3=0 ")
	}
	run(t, k, step{api.OK, book(1, at(1, 1), 1, 0)})
	for follower := range api.Followers {
		wantNews(t, k, follower, 50, "1.0=1 ")
		wantNews(t, k, follower, 50, "")
		wantNews(t, other, follower, 50, "! 1.0=2 1.1=0 1.2=0 1.3=0 ")
	}
	before := look(k)
	wantNews(t, k, 0, 1, "")
	if look(k) != before {
		t.Error("a bulletin changed what the other calls tell")
	}
}

func TestP11KeeperOpenedAnewHasToldNothing(t *testing.T) {
	on := tape.New(100000)
	for i := range 3 {
		k, e := berth.Open(on)
		if e != api.OK {
			t.Fatalf("Open = %d", e)
		}
		for _, follower := range []int{0, api.Followers - 1} {
			wantNews(t, k, follower, 50, allNews(k))
			wantNews(t, k, follower, 50, "")
		}
		n := i + 1
		run(t, k, step{api.OK, add(n+10, plane(1, 1, 0, 1))}, step{api.OK, book(n+10, at(1, 1), 1, 0)})
		wantNews(t, k, 0, 50, spellNews(api.Bulletin{News: []api.News{{Flight: n + 10}, {Flight: n + 10, Class: 1}, {Flight: n + 10, Class: 2}, {Flight: n + 10, Class: 3}}}))
	}
}

func TestP2NewsAreTheCallers(t *testing.T) {
	k := open(t)
	run(t, k, step{api.OK, add(7, plane(2, 3, 1, 6, 4, 2, 0))}, step{api.OK, add(8, plane(1, 1, 0, 1))})
	a, _ := k.Follow(0, 5)
	b, _ := k.Follow(1, 5)
	c, _ := k.Follow(0, 50)
	wantB, wantC := spellNews(b), spellNews(c)
	spare := a.News[:cap(a.News)]
	for i := range spare {
		spare[i] = api.News{Flight: 99, Class: 99, Left: 99}
	}
	if spellNews(b) != wantB || spellNews(c) != wantC {
		t.Errorf("writing into a bulletin changed another one: %v, %v", b, c)
	}
	wantNews(t, k, 0, 50, "")
	wantNews(t, k, 2, 50, "! 7.0=6 7.1=4 7.2=2 7.3=0 8.0=1 8.1=0 8.2=0 8.3=0 ")
	run(t, k, step{api.OK, book(7, at(1, 1), 1, 2)})
	wantNews(t, k, 1, 50, "7.0=5 7.1=3 7.2=1 8.1=0 8.2=0 8.3=0 ")
	if spellNews(b) != wantB || spellNews(c) != wantC {
		t.Errorf("later calls changed a bulletin: %v, %v", b, c)
	}
}
