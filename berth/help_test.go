package berth_test

import (
	"testing"

	"berth/api"
	"berth/berth"
	"berth/tape"
)

const far = 1 << 62

// step is a command, and what it is to be answered.
type step struct {
	want api.Errno
	c    api.Command
}

func open(t *testing.T) *berth.Keeper {
	t.Helper()
	k, e := berth.Open(tape.New(100000))
	if k == nil || e != api.OK {
		t.Fatalf("Open = %v, %d", k, e)
	}
	return k
}

func run(t *testing.T, k *berth.Keeper, steps ...step) {
	t.Helper()
	for i, s := range steps {
		if e := k.Do(s.c); e != s.want {
			t.Errorf("step %d: Do(%+v) = %d, want %d", i, s.c, e, s.want)
		}
	}
}

// refuse does commands that are to be refused, and looks whether each of them changed nothing.
func refuse(t *testing.T, k *berth.Keeper, steps ...step) {
	t.Helper()
	for i, s := range steps {
		before := look(k)
		if e := k.Do(s.c); e != s.want || e == api.OK {
			t.Errorf("refusal %d: Do(%+v) = %d, want %d", i, s.c, e, s.want)
		}
		if look(k) != before {
			t.Errorf("refusal %d: Do(%+v) changed what is told", i, s.c)
		}
	}
}

func plane(rows, cols, front int, limits ...int) api.Plane {
	p := api.Plane{Rows: rows, Cols: cols, Front: front}
	copy(p.Limits[:], limits)
	return p
}

func at(row, col int) api.Place { return api.Place{Row: row, Col: col} }

func add(n int, p api.Plane) api.Command { return api.Command{Kind: api.Add, Flight: n, Plane: p} }

func hold(n int, p api.Place, party, class, until int) api.Command {
	return api.Command{Kind: api.Hold, Flight: n, At: p, Party: party, Class: class, Time: until}
}

func book(n int, p api.Place, party, class int) api.Command {
	return api.Command{Kind: api.Book, Flight: n, At: p, Party: party, Class: class}
}

func cancel(n int, p api.Place, party int) api.Command {
	return api.Command{Kind: api.Cancel, Flight: n, At: p, Party: party}
}

func move(n int, p, to api.Place, party int) api.Command {
	return api.Command{Kind: api.Move, Flight: n, At: p, To: to, Party: party}
}

func block(n int, p api.Place) api.Command {
	return api.Command{Kind: api.Block, Flight: n, At: p}
}

func unblock(n int, p api.Place) api.Command {
	return api.Command{Kind: api.Unblock, Flight: n, At: p}
}

func tick(time int) api.Command { return api.Command{Kind: api.Tick, Time: time} }

// sight is all that a keeper tells of one flight.
type sight struct {
	left      [api.Classes]int
	leftErrno [api.Classes]api.Errno
	totals    api.Totals
	errno     api.Errno
}

// view is all that a keeper tells.
type view struct {
	now     int
	flights [api.MaxFlight + 2]sight
}

func look(k *berth.Keeper) view {
	v := view{now: k.Now()}
	for n := range v.flights {
		s := &v.flights[n]
		s.totals, s.errno = k.Count(n)
		for class := range s.left {
			s.left[class], s.leftErrno[class] = k.Left(n, class)
		}
	}
	return v
}

func wantLeft(t *testing.T, k *berth.Keeper, n int, want [api.Classes]int) {
	t.Helper()
	for class, w := range want {
		if v, e := k.Left(n, class); v != w || e != api.OK {
			t.Errorf("Left(%d, %d) = %d, %d, want %d", n, class, v, e, w)
		}
	}
}

func wantCount(t *testing.T, k *berth.Keeper, n int, want api.Totals) {
	t.Helper()
	if v, e := k.Count(n); v != want || e != api.OK {
		t.Errorf("Count(%d) = %v, %d, want %v", n, v, e, want)
	}
}

func wantNow(t *testing.T, k *berth.Keeper, want int) {
	t.Helper()
	if v := k.Now(); v != want {
		t.Errorf("Now = %d, want %d", v, want)
	}
}
