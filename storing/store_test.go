package storing

import (
	"slices"
	"testing"

	"berth/api"
	"berth/seating"
	"berth/spelling"
	"berth/tape"
)

// passed gives a record: it has become so late.
func passed(now int) []byte {
	return spelling.Record(0, spelling.Entry{Change: seating.Pass{Now: now}})
}

// times gives the times that entries tell (each as how much later it is, as they are spelt from 0 on here).
func times(entries []spelling.Entry) []int {
	var list []int
	now := 0
	for _, x := range entries {
		p := x.Change.(seating.Pass)
		list = append(list, p.Now-now)
		now = p.Now
	}
	return list
}

func open(t *testing.T, x *tape.Tape, want ...int) *Store {
	t.Helper()
	s, entries, e := Open(x)
	if got := times(entries); e != api.OK || !slices.Equal(got, want) {
		t.Fatalf("Open = %v, %d; want %v", got, e, want)
	}
	return &s
}

func is(t *testing.T, what string, got, want api.Errno) {
	t.Helper()
	if got != want {
		t.Errorf("%s = %d, want %d", what, got, want)
	}
}

func lengths(x *tape.Tape) [tape.Files]int {
	var n [tape.Files]int
	for f := range n {
		n[f] = len(x.Read(f))
	}
	return n
}

func TestP3RecordsLast(t *testing.T) {
	x := tape.New(1000)
	s := open(t, x)
	is(t, "Append", s.Append(passed(1)), api.OK)
	x.Fall(nil, 0)
	s = open(t, x, 1)
	is(t, "Append", s.Append(passed(300)), api.OK)
	x.Fall(nil, 0)
	open(t, x, 1, 300)
}

func TestP5DeadStoreIsShut(t *testing.T) {
	for fuse := range 2 {
		x := tape.New(1000)
		s := open(t, x)
		x.Fuse(fuse)
		is(t, "Append", s.Append(passed(1)), api.ErrDead)
		x.Fuse(-1)
		is(t, "Append", s.Append(passed(1)), api.ErrShut)
		is(t, "Append", s.Append(make([]byte, 1001)), api.ErrShut)
		is(t, "Replace", s.Replace(nil), api.ErrShut)
		is(t, "Shorten", s.Shorten(make([]byte, 1001)), api.ErrShut)
	}
	is(t, "Append of no store", (&Store{}).Append(nil), api.ErrShut)
}

func TestP5RecordBehindATornOneIsNeverLaid(t *testing.T) {
	x := tape.New(1000)
	s := open(t, x)
	is(t, "Append", s.Append(passed(1)), api.OK)
	x.Fuse(1)
	is(t, "Append", s.Append(passed(2)), api.ErrDead)
	x.Fall([]int{3}, 0)
	s = open(t, x, 1)
	if !s.Torn() {
		t.Fatal("the piece of a record was not seen")
	}
	is(t, "Replace", s.Replace(passed(1)), api.OK)
	if s.Torn() || lengths(x) != [tape.Files]int{0, len(passed(1))} {
		t.Errorf("torn: %v, the files have %v bytes", s.Torn(), lengths(x))
	}
	is(t, "Append", s.Append(passed(2)), api.OK)
	open(t, x, 1, 2)
}

// The record that takes the place of all others dies with each fuse, and any beginning of it lasts: there are always the old records or the new one, and the other file is empty when the store is open.
func TestP5ReplaceIsWholeOrNot(t *testing.T) {
	old, sum := append(passed(1), passed(200)...), passed(201)
	for fuse := range 4 {
		for keep := range len(sum) + 1 {
			for _, spoil := range []byte{0, 1, 0x80} {
				x := tape.New(1000)
				s := open(t, x)
				is(t, "Append", s.Append(old), api.OK)
				x.Fuse(fuse)
				want := api.ErrDead
				if fuse == 3 {
					want = api.OK
				}
				is(t, "Replace", s.Replace(sum), want)
				x.Fall([]int{keep, keep}, spoil)
				for range 2 {
					_, entries, e := Open(x)
					got := times(entries)
					is(t, "Open", e, api.OK)
					if n := lengths(x); n[0]*n[1] != 0 || n[0]+n[1] == 0 {
						t.Errorf("fuse %d, keep %d, spoil %d: the files have %v bytes", fuse, keep, spoil, n)
					}
					if !slices.Equal(got, []int{201}) && !slices.Equal(got, []int{1, 200}) || fuse == 3 && len(got) != 1 {
						t.Errorf("fuse %d, keep %d, spoil %d: there is %v", fuse, keep, spoil, got)
					}
				}
			}
		}
	}
}

func TestP4OpenDies(t *testing.T) {
	x := tape.New(1000)
	s := open(t, x)
	is(t, "Append", s.Append(append(passed(1), passed(200)...)), api.OK)
	x.Fuse(2)
	is(t, "Replace", s.Replace(passed(201)), api.ErrDead)
	for fuse := range 2 {
		x.Fuse(fuse)
		if s, entries, e := Open(x); s != (Store{}) || len(entries) != 0 || e != api.ErrDead {
			t.Errorf("Open = %v, %v, %d", s, entries, e)
		}
	}
	x.Fuse(2)
	open(t, x, 201)
}

func TestP12Shorten(t *testing.T) {
	x := tape.New(1000)
	s := open(t, x)
	is(t, "Shorten", s.Shorten(nil), api.OK)
	is(t, "Append", s.Append(passed(1)), api.OK)
	before := lengths(x)
	x.Fuse(0)
	is(t, "Shorten by nothing", s.Shorten(passed(1)), api.OK)
	is(t, "Shorten by less", s.Shorten(passed(1000)), api.OK)
	if lengths(x) != before {
		t.Errorf("the files have %v bytes, and had %v", lengths(x), before)
	}
	x.Fuse(-1)
	is(t, "Append", s.Append(passed(1)), api.OK)
	is(t, "Shorten", s.Shorten(passed(2)), api.OK)
	if lengths(x) != [tape.Files]int{0, len(passed(2))} {
		t.Errorf("the files have %v bytes", lengths(x))
	}
	is(t, "Append", s.Append(passed(5)), api.OK)
	is(t, "Shorten", s.Shorten(passed(7)), api.OK)
	open(t, x, 7)
}

func TestP13NoRoom(t *testing.T) {
	n := len(passed(1))
	x := tape.New(2 * n)
	s := open(t, x)
	is(t, "Append", s.Append(make([]byte, 2*n+1)), api.ErrSpace)
	is(t, "Append", s.Append(passed(1)), api.OK)
	is(t, "Replace", s.Replace(make([]byte, n+1)), api.ErrSpace)
	is(t, "Append", s.Append(passed(1)), api.OK)
	x.Fuse(0)
	is(t, "Append", s.Append(passed(1)), api.ErrSpace)
	is(t, "Replace", s.Replace(passed(2)), api.ErrSpace)
	x.Fuse(-1)
	is(t, "Append", s.Append(nil), api.OK)
	open(t, x, 1, 1)
}
