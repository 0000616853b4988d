package berth_test

import (
	"math/rand"
	"testing"

	"berth/api"
	"berth/berth"
	"berth/tape"
)

// load is what there must be room for on a tape, in the words of P13.
type load struct {
	greatest      int // weight since the last Pack
	changes, dead int
}

func (l *load) weigh(k *berth.Keeper) { l.greatest = max(l.greatest, weigh(k)) }

func (l *load) must() int {
	return 2*l.greatest + api.ChangeRoom*(l.changes+l.dead+1) + 2*(api.FlightRoom+api.SeatRoom)
}

// ticksOn ticks as often as there is room.
func ticksOn(t *testing.T, k *berth.Keeper) int {
	t.Helper()
	for n := range 100000 {
		switch e := k.Do(tick(1)); e {
		case api.OK:
		case api.ErrSpace:
			return n
		default:
			t.Fatalf("tick %d = %d", n, e)
		}
	}
	t.Fatal("there is room without end")
	return 0
}

func TestP13ChangesFit(t *testing.T) {
	for _, room := range []int{api.FileRoom, 400, 639, 640, 641, 700, 1000, 5000} {
		x := tape.New(room)
		k := openOn(t, x)
		n := ticksOn(t, k)
		if must := (room - 2*api.FileRoom - 2*(api.FlightRoom+api.SeatRoom)) / api.ChangeRoom; n < must {
			t.Errorf("%d changes on %d bytes, there must be room for %d", n, room, must)
		}
		wantNow(t, k, n)
		refuse(t, k, step{api.ErrSpace, tick(1)}, step{api.ErrSpace, add(1, plane(1, 1, 0))}, step{api.ErrTime, tick(0)}, step{api.ErrShape, add(1, plane(0, 1, 0))})
		x.Fuse(0)
		refuse(t, k, step{api.ErrSpace, tick(1)})
		x.Fall(nil, 0)
		// What there is no room for is no change; the keeper is not shut, and a Pack makes room.
		k = openOn(t, x)
		wantNow(t, k, n)
		refuse(t, k, step{api.ErrSpace, tick(1)})
		if room > api.FileRoom+api.ChangeRoom {
			x = tape.New(room)
			k = openOn(t, x)
			for range n - 3 {
				run(t, k, step{api.OK, tick(1)})
			}
			wantPack(t, k, api.OK)
			if more := ticksOn(t, k); more < n-3 {
				t.Errorf("behind a Pack there is room for %d changes on %d bytes, ahead of it there was for %d", more, room, n)
			}
		}
	}
}

// On just the room that must be there all changes of a great keeper fit, with a Pack behind each so many of them.
func TestP13JustTheRoomThatMustBeThere(t *testing.T) {
	var commands []api.Command
	for n := 1; n <= 3; n++ {
		commands = append(commands, add(n, plane(20, 6, 10, 200, 200, 200, 200)))
		for i := range 120 {
			commands = append(commands, hold(n, at(1+i/6, 1+i%6), api.MaxParty, i%4, 100))
		}
	}
	whole := openOn(t, tapeBehind(t, commands))
	for _, packs := range []int{1, 7, len(commands)} {
		l := load{greatest: weigh(whole), changes: packs}
		x := tape.New(l.must())
		k := openOn(t, x)
		for i, c := range commands {
			run(t, k, step{api.OK, c})
			if i%packs == packs-1 {
				wantPack(t, k, api.OK)
			}
		}
		if look(k) != look(whole) || lookOn(t, x) != look(whole) {
			t.Errorf("packed behind each %d commands the keeper tells something else", packs)
		}
	}
}

// TestP13NoErrSpaceWhereThereMustBeRoom runs keepers on tapes with more or less room, which die more or less often and are opened anew; where there must be room there is, and where there is none nothing changes.
func TestP13NoErrSpaceWhereThereMustBeRoom(t *testing.T) {
	type answer struct {
		must, pack bool
		e          api.Errno
	}
	seen := map[answer]int{}
	for seed := range int64(200) {
		r := rand.New(rand.NewSource(seed))
		x := tape.New(api.FileRoom + r.Intn(100) + r.Intn(2)*r.Intn(3000))
		rare := 6 + r.Intn(2)*150
		k, l := openOn(t, x), load{greatest: api.FileRoom}
		for i := range 500 {
			if r.Intn(rare) == 0 {
				x.Fuse(r.Intn(6))
			}
			a := answer{must: l.must() <= x.Room(), pack: r.Intn(rare) == 0}
			before := look(k)
			if a.pack {
				a.e = k.Pack()
			} else {
				a.e = k.Do(someCommand(r, k.Now()))
			}
			seen[a]++
			if a.e == api.ErrSpace && (a.must || look(k) != before) {
				t.Fatalf("seed %d, call %d: ErrSpace on %d bytes of %d; there must be room: %v", seed, i, length(x), x.Room(), a.must)
			}
			l.count(a.pack, a.e)
			if a.e == api.ErrDead || r.Intn(rare) == 0 {
				// An Open finds room on every tape that it was once OK on.
				k = revive(t, r, x)
			}
			l.weigh(k)
		}
	}
	for _, a := range []answer{
		{true, false, api.OK}, {true, true, api.OK}, {true, false, api.ErrDead}, {true, true, api.ErrDead},
		{false, false, api.OK}, {false, true, api.OK}, {false, false, api.ErrDead}, {false, true, api.ErrDead},
		{false, false, api.ErrSpace}, {false, true, api.ErrSpace},
	} {
		if seen[a] < 20 {
			t.Errorf("%v was answered %d times only", a, seen[a])
		}
	}
}

// someCommand gives a command which most times may be done.
func someCommand(r *rand.Rand, now int) api.Command {
	switch r.Intn(4) {
	case 0:
		return tick(1 + r.Intn(3))
	case 1:
		return hold(1+r.Intn(3), at(1+r.Intn(2), 1+r.Intn(3)), 1+r.Intn(1000), 0, now+1+r.Intn(100))
	}
	return randomCommand(r, now)
}

// count counts what a Do or a Pack was answered.
func (l *load) count(pack bool, e api.Errno) {
	switch {
	case pack && e == api.OK:
		*l = load{}
	case !pack && e == api.OK:
		l.changes++
	case !pack && e == api.ErrDead:
		l.dead++
	}
}
