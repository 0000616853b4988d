package berth_test

import (
	"iter"
	"math/rand"
	"testing"

	"berth/api"
	"berth/berth"
	"berth/tape"
)

// openOn gives the keeper of a tape.
func openOn(t *testing.T, x *tape.Tape) *berth.Keeper {
	t.Helper()
	k, e := berth.Open(x)
	if k == nil || e != api.OK {
		t.Fatalf("Open = %v, %d", k, e)
	}
	return k
}

// lookOn tells all that the keeper of a copy of a tape tells.
func lookOn(t *testing.T, x *tape.Tape) view {
	t.Helper()
	return look(openOn(t, x.Copy()))
}

func length(x *tape.Tape) int {
	n := 0
	for f := range tape.Files {
		n += len(x.Read(f))
	}
	return n
}

// history is a command of each kind, and more, all of which are answered OK one behind the other.
func history() []api.Command {
	return []api.Command{
		add(1, plane(3, 2, 1, 6, 5, 4, 3)),
		add(20, plane(1, 3, 0, 3, 3)),
		hold(1, at(1, 1), 1, 0, 9),
		hold(1, at(1, 2), api.MaxParty, 3, 3),
		book(1, at(2, 1), 300, 1),
		book(1, at(1, 1), 1, 0),
		move(1, at(2, 1), at(3, 2), 300),
		tick(2),
		block(20, at(1, 1)),
		unblock(20, at(1, 1)),
		block(20, at(1, 3)),
		tick(1),
		swap(1, plane(2, 2, 1)),
		cancel(1, at(1, 1), 1),
		swap(20, plane(20, 6, 20)),
		hold(20, at(20, 6), 7, 1, 103),
		tick(100),
	}
}

// tapeBehind gives a tape on which the commands were done.
func tapeBehind(t *testing.T, commands []api.Command) *tape.Tape {
	t.Helper()
	x := tape.New(100000)
	k := openOn(t, x)
	for _, c := range commands {
		run(t, k, step{api.OK, c})
	}
	return x
}

// act makes a tape ready for a call, and gives the call.
type act func(t *testing.T, x *tape.Tape) func() api.Errno

func doing(c api.Command) act {
	return func(t *testing.T, x *tape.Tape) func() api.Errno {
		k := openOn(t, x)
		return func() api.Errno { return k.Do(c) }
	}
}

func packing(t *testing.T, x *tape.Tape) func() api.Errno { return openOn(t, x).Pack }

func opening(t *testing.T, x *tape.Tape) func() api.Errno {
	return func() api.Errno {
		k, e := berth.Open(x)
		if (k == nil) != (e != api.OK) {
			t.Fatalf("Open = %v, %d", k, e)
		}
		return e
	}
}

// fates gives all that may become of a tape by a call, and what is answered: it dies at each append, sync and clear, or at none; then it comes alive as it is, or the power goes, and any beginning of what was not synced lasts, with its last byte spoilt or not.
func fates(t *testing.T, x *tape.Tape, a act, spoils []byte) iter.Seq2[*tape.Tape, api.Errno] {
	return func(yield func(*tape.Tape, api.Errno) bool) {
		e := api.ErrDead
		for fuse := 0; e == api.ErrDead; fuse++ {
			y := x.Copy()
			call := a(t, y)
			y.Fuse(fuse)
			e = call()
			if e != api.OK && e != api.ErrDead || fuse == 20 {
				t.Fatalf("fuse %d: answered %d", fuse, e)
			}
			for z := range remains(y, spoils) {
				if !yield(z, e) {
					return
				}
			}
		}
	}
}

// remains gives all that may be left of a tape.
func remains(x *tape.Tape, spoils []byte) iter.Seq[*tape.Tape] {
	return func(yield func(*tape.Tape) bool) {
		least := x.Copy()
		least.Fall(nil, 0)
		unsynced := length(x) - length(least)
		if !yield(least) {
			return
		}
		alive := x.Copy()
		alive.Fuse(-1)
		if !yield(alive) {
			return
		}
		for keep := 1; keep <= unsynced; keep++ {
			for _, spoil := range spoils {
				z := x.Copy()
				z.Fall([]int{keep, keep, keep, keep}, spoil)
				if !yield(z) {
					return
				}
			}
		}
	}
}

var fewSpoils = []byte{0, 1, 0x80, 0xFF}

func allSpoils() []byte {
	list := make([]byte, 256)
	for i := range list {
		list[i] = byte(i)
	}
	return list
}

// wantStays looks whether what a tape tells stays, however often it is opened, and dies meanwhile.
func wantStays(t *testing.T, x *tape.Tape, want view) {
	t.Helper()
	for y := range fates(t, x, opening, fewSpoils) {
		for range 2 {
			k := openOn(t, y)
			if look(k) != want {
				t.Fatal("what was there is not there any more, or something else is")
			}
			y = y.Copy()
		}
	}
}

func TestP5ChangesAreThereWhenOpenedAnew(t *testing.T) {
	for _, fallen := range []bool{false, true} {
		x := tape.New(100000)
		k := openOn(t, x)
		for i, c := range history() {
			run(t, k, step{api.OK, c}, step{api.ErrKind, api.Command{}}, step{api.ErrTime, tick(0)})
			want := look(k)
			if fallen {
				x.Fall([]int{9, 9}, 1)
			}
			if k = openOn(t, x); look(k) != want {
				t.Fatalf("behind command %d the keeper that is opened anew tells something else", i)
			}
			if lookOn(t, x) != want {
				t.Fatalf("behind command %d the keeper of a copy tells something else", i)
			}
		}
	}
}

func TestP5DeathInEachCommand(t *testing.T) {
	for i, c := range history() {
		x := tapeBehind(t, history()[:i])
		before, after := lookOn(t, x), lookOn(t, tapeBehind(t, history()[:i+1]))
		seen := map[bool]int{}
		for y, e := range fates(t, x, doing(c), allSpoils()) {
			found := lookOn(t, y)
			if found != after && (found != before || e == api.OK) {
				t.Fatalf("command %d, answered %d: there is neither all of it nor nothing", i, e)
			}
			if e == api.ErrDead {
				seen[found == after]++
			}
		}
		if seen[false] == 0 || seen[true] == 0 {
			t.Errorf("command %d: the tape never died with it there, or without it: %v", i, seen)
		}
		for y := range fates(t, x, doing(c), fewSpoils) {
			// Which it is says the keeper that is opened next.
			wantStays(t, y, look(openOn(t, y)))
		}
	}
}

func TestP5DeathInAPack(t *testing.T) {
	for i := range len(history()) + 1 {
		x := tapeBehind(t, history()[:i])
		want := lookOn(t, x)
		for y, e := range fates(t, x, packing, fewSpoils) {
			if lookOn(t, y) != want {
				t.Fatalf("behind %d commands a Pack that was answered %d changed what is told", i, e)
			}
		}
		for y := range fates(t, x, packing, []byte{0, 0x21}) {
			wantStays(t, y, want)
		}
	}
}

// Behind each death comes another command (or a Pack), in which the tape dies again, and a third one that is answered for.
func TestP5DeathBehindADeath(t *testing.T) {
	first, second, third := add(5, plane(1, 2, 0, 2)), add(6, plane(2, 2, 1, 4)), add(7, plane(1, 1, 0))
	for _, i := range []int{0, 2, 8, 14} {
		for _, a := range []act{doing(second), packing} {
			x := tapeBehind(t, history()[:i])
			for y := range fates(t, x, doing(first), []byte{0, 0x80}) {
				without := look(openOn(t, y))
				with := lookOn(t, tapeWith(t, y, second))
				for z, e := range fates(t, y, a, []byte{0, 0xE0}) {
					k := openOn(t, z)
					if found := look(k); found != without && found != with {
						t.Fatalf("behind %d commands, answered %d: something else is there", i, e)
					}
					run(t, k, step{api.OK, third})
					want := look(k)
					z.Fall(nil, 0)
					if lookOn(t, z) != want {
						t.Fatal("what was answered for is not there")
					}
				}
			}
		}
	}
}

// tapeWith gives a copy of a tape on which one command more was done.
func tapeWith(t *testing.T, x *tape.Tape, c api.Command) *tape.Tape {
	t.Helper()
	y := x.Copy()
	run(t, openOn(t, y), step{api.OK, c})
	return y
}

func TestP4OpenOfADeadTape(t *testing.T) {
	x := tapeBehind(t, history()[:3])
	want := lookOn(t, x)
	for range 2 {
		x.Fuse(0)
		if k, e := berth.Open(x); k != nil || e != api.ErrDead {
			t.Fatalf("Open = %v, %d", k, e)
		}
		x.Fall(nil, 0)
	}
	if lookOn(t, x) != want {
		t.Error("an Open that was answered ErrDead changed what is told")
	}
	y := tape.New(api.FileRoom - 1)
	y.Fuse(0)
	if k, e := berth.Open(y); k != nil || e != api.ErrSpace {
		t.Errorf("Open = %v, %d", k, e)
	}
}

// The tape dies in an Open behind a fall, at each moment of it, again and again.
func TestP4OpenDiesBehindAFall(t *testing.T) {
	for i, c := range history() {
		x := tapeBehind(t, history()[:i])
		before, after := lookOn(t, x), lookOn(t, tapeBehind(t, history()[:i+1]))
		for _, a := range []act{doing(c), packing} {
			for y := range fates(t, x, a, []byte{0, 0x7F}) {
				for z := range fates(t, y, opening, []byte{0, 0x7F}) {
					for u := range fates(t, z, opening, []byte{0}) {
						if found := lookOn(t, u); found != before && found != after {
							t.Fatalf("command %d: there is neither all of it nor nothing", i)
						}
					}
				}
			}
		}
	}
}

func TestP5ShutBehindDead(t *testing.T) {
	for fuse := range 2 {
		for _, packed := range []bool{false, true} {
			x := tapeBehind(t, history()[:9])
			k := openOn(t, x)
			x.Fuse(fuse)
			if e := k.Do(api.Command{}); e != api.ErrKind {
				t.Errorf("Do on a dead tape = %d, want %d", e, api.ErrKind)
			}
			if packed {
				wantPack(t, k, api.ErrDead)
			} else {
				run(t, k, step{api.ErrDead, tick(1)})
			}
			for _, alive := range []bool{false, true} {
				if alive {
					x.Fall(nil, 0)
				}
				wantShut(t, k)
			}
		}
	}
}

// wantShut looks whether a keeper behind the first nine commands of the history is shut, and what comes ahead of that.
func wantShut(t *testing.T, k *berth.Keeper) {
	t.Helper()
	wantPack(t, k, api.ErrShut)
	run(t, k,
		step{api.ErrShut, tick(1)},
		step{api.ErrShut, add(2, plane(1, 1, 0))},
		step{api.ErrShut, hold(1, at(2, 1), 1, 0, 9)},
		step{api.ErrShut, book(1, at(2, 1), 1, 0)},
		step{api.ErrShut, cancel(1, at(1, 1), 1)},
		step{api.ErrShut, move(1, at(1, 1), at(2, 1), 1)},
		step{api.ErrShut, block(20, at(1, 2))},
		step{api.ErrShut, unblock(20, at(1, 1))},
		step{api.ErrShut, swap(1, plane(3, 3, 0))},
		step{api.ErrKind, api.Command{Kind: -1}},
		step{api.ErrTime, tick(0)},
		step{api.ErrFlight, block(0, at(1, 1))},
		step{api.ErrFlight, block(2, at(1, 1))},
		step{api.ErrTwice, add(1, plane(1, 1, 0))},
		step{api.ErrShape, add(2, plane(0, 1, 0))},
		step{api.ErrShape, swap(1, plane(1, 1, 0))},
		step{api.ErrSeat, block(1, at(9, 9))},
		step{api.ErrClass, hold(1, at(2, 1), 1, 4, 9)},
		step{api.ErrParty, hold(1, at(2, 1), 0, 0, 9)},
		step{api.ErrTime, hold(1, at(2, 1), 1, 0, 0)},
		step{api.ErrTaken, hold(1, at(1, 1), 1, 0, 9)},
		step{api.ErrLimit, hold(20, at(1, 2), 1, 3, 9)},
		step{api.ErrState, cancel(1, at(2, 1), 1)},
		step{api.ErrParty, cancel(1, at(1, 1), 2)},
		step{api.ErrTaken, move(1, at(1, 1), at(1, 1), 1)},
		step{api.ErrState, unblock(1, at(2, 1))},
	)
}

// A keeper whose tape dies leaves those of other tapes, and of copies, as they are.
func TestP2DeathIsOfOneTape(t *testing.T) {
	x := tapeBehind(t, history()[:5])
	y := x.Copy()
	a, b := openOn(t, x), openOn(t, y)
	want := look(b)
	x.Fuse(1)
	run(t, a, step{api.ErrDead, tick(1)}, step{api.ErrShut, tick(1)})
	if look(b) != want || lookOn(t, y) != want {
		t.Error("the death of a tape changed what is told of its copy")
	}
	run(t, b, step{api.OK, tick(1)})
	wantPack(t, b, api.OK)
}

// TestP5KeeperIsAsCountingAnewThroughDeaths runs a keeper, opened anew whenever its tape dies, beside a model that lives.
func TestP5KeeperIsAsCountingAnewThroughDeaths(t *testing.T) {
	died := map[bool]int{}
	for seed := range int64(60) {
		r := rand.New(rand.NewSource(seed))
		x := tape.New(1 << 20)
		k, m := openOn(t, x), newModel()
		for range 400 {
			if r.Intn(5) == 0 {
				x.Fuse(r.Intn(7))
			}
			c := randomCommand(r, m.now)
			e := api.OK
			if r.Intn(12) == 0 {
				c = api.Command{}
				e = k.Pack()
			} else if e = k.Do(c); e != api.ErrDead && e != m.do(c) {
				t.Fatalf("seed %d: Do(%+v) = %d", seed, c, e)
			}
			if e == api.ErrDead || r.Intn(15) == 0 {
				k = revive(t, r, x)
				m.followers = [8]modelFollower{}
			}
			if e == api.ErrDead && c.Kind != 0 {
				there := look(k) != m.look()
				died[there]++
				if there && m.do(c) != api.OK {
					t.Fatalf("seed %d: Do(%+v) was none, and is there", seed, c)
				}
			}
			if look(k) != m.look() {
				t.Fatalf("seed %d: behind Do(%+v) = %d: %v, want %v", seed, c, e, look(k), m.look())
			}
			sameNews(t, r, k, m)
		}
	}
	if died[false] < 100 || died[true] < 100 {
		t.Errorf("the tape died too rarely: %v", died)
	}
}

// revive opens a tape anew until it does not die of it; most times the power goes ahead of it.
func revive(t *testing.T, r *rand.Rand, x *tape.Tape) *berth.Keeper {
	t.Helper()
	for {
		if x.Fuse(-1); r.Intn(4) > 0 {
			spoil := byte(r.Intn(256)) * byte(r.Intn(2))
			x.Fall([]int{r.Intn(30), r.Intn(30)}, spoil)
		}
		if r.Intn(3) == 0 {
			x.Fuse(r.Intn(3))
		}
		k, e := berth.Open(x)
		if e == api.OK {
			return k
		}
		if k != nil || e != api.ErrDead {
			t.Fatalf("Open = %v, %d", k, e)
		}
	}
}
