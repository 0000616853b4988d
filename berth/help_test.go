package berth_test

import (
	"strconv"
	"strings"
	"testing"

	"berth/api"
	"berth/berth"
	"berth/tape"
)

const far = 1 << 62

// step is a command, and what it is to be answered.
type step struct {
	want api.Errno
	c    api.Command
}

func open(t *testing.T) *berth.Keeper {
	t.Helper()
	k, e := berth.Open(tape.New(100000))
	if k == nil || e != api.OK {
		t.Fatalf("Open = %v, %d", k, e)
	}
	return k
}

func run(t *testing.T, k *berth.Keeper, steps ...step) {
	t.Helper()
	for i, s := range steps {
		if e := k.Do(s.c); e != s.want {
			t.Errorf("step %d: Do(%+v) = %d, want %d", i, s.c, e, s.want)
		}
	}
}

// refuse does commands that are to be refused, and looks whether each of them changed nothing.
func refuse(t *testing.T, k *berth.Keeper, steps ...step) {
	t.Helper()
	for i, s := range steps {
		before := look(k)
		if e := k.Do(s.c); e != s.want || e == api.OK {
			t.Errorf("refusal %d: Do(%+v) = %d, want %d", i, s.c, e, s.want)
		}
		if look(k) != before {
			t.Errorf("refusal %d: Do(%+v) changed what is told", i, s.c)
		}
	}
}

func plane(rows, cols, front int, limits ...int) api.Plane {
	p := api.Plane{Rows: rows, Cols: cols, Front: front}
	copy(p.Limits[:], limits)
	return p
}

func cursor(row, col, epoch int) api.Cursor { return api.Cursor{At: at(row, col), Epoch: epoch} }

func at(row, col int) api.Place { return api.Place{Row: row, Col: col} }

func add(n int, p api.Plane) api.Command { return api.Command{Kind: api.Add, Flight: n, Plane: p} }

func hold(n int, p api.Place, party, class, until int) api.Command {
	return api.Command{Kind: api.Hold, Flight: n, At: p, Party: party, Class: class, Time: until}
}

func book(n int, p api.Place, party, class int) api.Command {
	return api.Command{Kind: api.Book, Flight: n, At: p, Party: party, Class: class}
}

func cancel(n int, p api.Place, party int) api.Command {
	return api.Command{Kind: api.Cancel, Flight: n, At: p, Party: party}
}

func move(n int, p, to api.Place, party int) api.Command {
	return api.Command{Kind: api.Move, Flight: n, At: p, To: to, Party: party}
}

func block(n int, p api.Place) api.Command {
	return api.Command{Kind: api.Block, Flight: n, At: p}
}

func unblock(n int, p api.Place) api.Command {
	return api.Command{Kind: api.Unblock, Flight: n, At: p}
}

func swap(n int, p api.Plane) api.Command { return api.Command{Kind: api.Swap, Flight: n, Plane: p} }

func tick(time int) api.Command { return api.Command{Kind: api.Tick, Time: time} }

// sight is all that a keeper tells of one flight.
type sight struct {
	left      [api.Classes]int
	leftErrno [api.Classes]api.Errno
	totals    api.Totals
	errno     api.Errno
	epoch     int
	seats     string
}

// view is all that a keeper tells.
type view struct {
	now     int
	flights [api.MaxFlight + 2]sight
}

func look(k *berth.Keeper) view {
	v := view{now: k.Now()}
	for n := range v.flights {
		s := &v.flights[n]
		s.totals, s.errno = k.Count(n)
		list, end, e := readAll(k, n)
		if e != s.errno {
			panic("Seats and Count do not tell the same flights")
		}
		s.epoch, s.seats = end.Epoch, spell(list)
		for class := range s.left {
			s.left[class], s.leftErrno[class] = k.Left(n, class)
		}
	}
	return v
}

// readAll reads all seats of a flight, page by page; end is behind the last one.
func readAll(k *berth.Keeper, n int) (list []api.Seat, end api.Cursor, e api.Errno) {
	for len(list) <= api.MaxRows*api.MaxCols {
		p, e := k.Seats(n, end, api.MaxPage)
		list, end = append(list, p.Seats...), p.Next
		if e != api.OK || !p.More || len(p.Seats) == 0 {
			return list, end, e
		}
	}
	panic("the pages of a flight do not end")
}

// spell writes seats as a text; those that are nothing but free by their places alone.
func spell(list []api.Seat) string {
	var b strings.Builder
	for _, s := range list {
		if b.Len() > 0 {
			b.WriteByte(' ')
		}
		b.WriteString(strconv.Itoa(s.At.Row) + "," + strconv.Itoa(s.At.Col))
		if s == (api.Seat{At: s.At}) {
			continue
		}
		for _, v := range []int{s.State, s.Party, s.Class, s.Until} {
			b.WriteString(":" + strconv.Itoa(v))
		}
	}
	return b.String()
}

// wantSeats looks at all seats of a flight (as spell writes them), and at its epoch.
func wantSeats(t *testing.T, k *berth.Keeper, n int, want string, epoch int) {
	t.Helper()
	list, end, e := readAll(k, n)
	if spell(list) != want || end.Epoch != epoch || e != api.OK {
		t.Errorf("Seats(%d) = %s, epoch %d, %d; want %s, epoch %d", n, spell(list), end.Epoch, e, want, epoch)
	}
}

// wantPage looks at a page: at its seats (as spell writes them), at Next and at More.
func wantPage(t *testing.T, k *berth.Keeper, n int, from api.Cursor, size int, want string, next api.Cursor, more bool) api.Cursor {
	t.Helper()
	p, e := k.Seats(n, from, size)
	if spell(p.Seats) != want || p.Next != next || p.More != more || e != api.OK {
		t.Errorf("Seats(%d, %v, %d) = %v, %d; want %s, %v, %v", n, from, size, p, e, want, next, more)
	}
	return p.Next
}

// wantNoPage looks whether a page is refused.
func wantNoPage(t *testing.T, k *berth.Keeper, n int, from api.Cursor, size int, want api.Errno) {
	t.Helper()
	p, e := k.Seats(n, from, size)
	if len(p.Seats) != 0 || p.Next != (api.Cursor{}) || p.More || e != want {
		t.Errorf("Seats(%d, %v, %d) = %v, %d; want nothing, %d", n, from, size, p, e, want)
	}
}

func wantLeft(t *testing.T, k *berth.Keeper, n int, want [api.Classes]int) {
	t.Helper()
	for class, w := range want {
		if v, e := k.Left(n, class); v != w || e != api.OK {
			t.Errorf("Left(%d, %d) = %d, %d, want %d", n, class, v, e, w)
		}
	}
}

func wantCount(t *testing.T, k *berth.Keeper, n int, want api.Totals) {
	t.Helper()
	if v, e := k.Count(n); v != want || e != api.OK {
		t.Errorf("Count(%d) = %v, %d, want %v", n, v, e, want)
	}
}

func wantNow(t *testing.T, k *berth.Keeper, want int) {
	t.Helper()
	if v := k.Now(); v != want {
		t.Errorf("Now = %d, want %d", v, want)
	}
}
