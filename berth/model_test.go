package berth_test

import (
	"math/rand"
	"slices"
	"testing"

	"berth/api"
	"berth/berth"
)

// model is a keeper that counts anew whenever it is asked, after the words of the document.
type model struct {
	now       int
	flights   map[int]*modelFlight
	followers [8]modelFollower
}

// modelFollower is who follows, and all that was told, in the order in which it was.
type modelFollower struct {
	asked bool
	told  []api.News
}

type modelFlight struct {
	plane api.Plane
	seats []api.Seat // all of them, in their order
	epoch int
}

func newModel() *model { return &model{flights: map[int]*modelFlight{}} }

func (f *modelFlight) seat(at api.Place) *api.Seat {
	for i := range f.seats {
		if f.seats[i].At == at {
			return &f.seats[i]
		}
	}
	return nil
}

func (f *modelFlight) sold(class int) int {
	n := 0
	for _, s := range f.seats {
		if (s.State == api.Held || s.State == api.Booked) && s.Class == class {
			n++
		}
	}
	return n
}

func (f *modelFlight) left(class int) int {
	least := 0
	for _, s := range f.seats {
		if s.State == api.Free {
			least++
		}
	}
	for j := 0; j <= class; j++ {
		n := f.plane.Limits[j]
		for i := j; i < api.Classes; i++ {
			n -= f.sold(i)
		}
		least = min(least, n)
	}
	return max(least, 0)
}

func (f *modelFlight) totals() api.Totals {
	var v api.Totals
	for _, s := range f.seats {
		if s.At.Row <= f.plane.Front {
			v.Front[s.State]++
		} else {
			v.Rear[s.State]++
		}
	}
	for class := range v.Sold {
		v.Sold[class] = f.sold(class)
	}
	return v
}

func (m *model) do(c api.Command) api.Errno {
	if c.Kind < 1 || c.Kind > 9 {
		return api.ErrKind
	}
	if c.Kind == api.Tick {
		return m.tick(c.Time)
	}
	f := m.flights[c.Flight]
	if c.Flight < 1 || c.Flight > 20 || c.Kind != api.Add && f == nil {
		return api.ErrFlight
	}
	if c.Kind == api.Add {
		return m.add(c)
	}
	e := m.change(f, c)
	if e == api.OK {
		f.epoch++
	}
	return e
}

func (m *model) change(f *modelFlight, c api.Command) api.Errno {
	if c.Kind == api.Swap {
		return f.swap(c.Plane)
	}
	s := f.seat(c.At)
	if s == nil || c.Kind == api.Move && f.seat(c.To) == nil {
		return api.ErrSeat
	}
	switch c.Kind {
	case api.Hold, api.Book:
		return m.sell(f, s, c)
	case api.Cancel, api.Move:
		return m.give(f, s, c)
	case api.Block:
		if s.State != api.Free {
			return api.ErrTaken
		}
		s.State = api.Blocked
	case api.Unblock:
		if s.State != api.Blocked {
			return api.ErrState
		}
		s.State = api.Free
	}
	return api.OK
}

func (m *model) add(c api.Command) api.Errno {
	if m.flights[c.Flight] != nil {
		return api.ErrTwice
	}
	p := c.Plane
	if p.Rows < 1 || p.Rows > 20 || p.Cols < 1 || p.Cols > 6 || p.Front < 0 || p.Front > p.Rows {
		return api.ErrShape
	}
	for i, l := range p.Limits {
		if l < 0 || l > 200 || i > 0 && l > p.Limits[i-1] {
			return api.ErrShape
		}
	}
	m.flights[c.Flight] = &modelFlight{plane: p, seats: freeSeats(p), epoch: 1}
	return api.OK
}

func freeSeats(p api.Plane) []api.Seat {
	var list []api.Seat
	for row := 1; row <= p.Rows; row++ {
		for col := 1; col <= p.Cols; col++ {
			list = append(list, api.Seat{At: at(row, col)})
		}
	}
	return list
}

func (f *modelFlight) swap(p api.Plane) api.Errno {
	filled := 0
	for _, s := range f.seats {
		if s.State != api.Free {
			filled++
		}
	}
	if p.Rows < 1 || p.Rows > 20 || p.Cols < 1 || p.Cols > 6 || p.Front < 0 || p.Front > p.Rows || p.Rows*p.Cols < filled {
		return api.ErrShape
	}
	old := f.seats
	f.plane.Rows, f.plane.Cols, f.plane.Front = p.Rows, p.Cols, p.Front
	f.seats = freeSeats(p)
	for _, s := range old {
		if to := f.seat(s.At); to != nil {
			*to = s
		}
	}
	for _, s := range old {
		if s.State != api.Free && f.seat(s.At) == nil {
			to := f.firstFree()
			s.At = to.At
			*to = s
		}
	}
	return api.OK
}

func (f *modelFlight) firstFree() *api.Seat {
	for i := range f.seats {
		if f.seats[i].State == api.Free {
			return &f.seats[i]
		}
	}
	return nil
}

// page tells a page after the words of the document.
func (m *model) page(n int, from api.Cursor, size int) (api.Page, api.Errno) {
	f := m.flights[n]
	switch {
	case f == nil:
		return api.Page{}, api.ErrFlight
	case size < 1 || size > 30:
		return api.Page{}, api.ErrPage
	case from != api.Cursor{} && from.Epoch != f.epoch:
		return api.Page{}, api.ErrStale
	case from != api.Cursor{} && f.seat(from.At) == nil:
		return api.Page{}, api.ErrSeat
	}
	p := api.Page{Next: api.Cursor{At: from.At, Epoch: f.epoch}}
	for _, s := range f.seats {
		behind := s.At.Row > from.At.Row || s.At.Row == from.At.Row && s.At.Col > from.At.Col
		switch {
		case behind && len(p.Seats) == size:
			p.More = true
		case behind:
			p.Seats = append(p.Seats, s)
			p.Next.At = s.At
		}
	}
	return p, api.OK
}

// follow tells news after the words of the document.
func (m *model) follow(follower, most int) (api.Bulletin, api.Errno) {
	if follower < 0 || follower > 7 {
		return api.Bulletin{}, api.ErrFollow
	}
	if most < 1 || most > 50 {
		return api.Bulletin{}, api.ErrPage
	}
	f := &m.followers[follower]
	b := api.Bulletin{Fresh: !f.asked}
	f.asked = true
	for n := 1; n <= 20; n++ {
		for class := 0; class < 4 && m.flights[n] != nil; class++ {
			news := api.News{Flight: n, Class: class, Left: min(m.flights[n].left(class), 9)}
			if last := f.last(n, class); last == nil || *last != news {
				b.News = append(b.News, news)
			}
		}
	}
	if len(b.News) > most {
		b.News, b.More = b.News[:most], true
	}
	f.told = append(f.told, b.News...)
	return b, api.OK
}

// last gives what was told last of a class of a flight, or nil.
func (f *modelFollower) last(n, class int) *api.News {
	for i := len(f.told) - 1; i >= 0; i-- {
		if f.told[i].Flight == n && f.told[i].Class == class {
			return &f.told[i]
		}
	}
	return nil
}

func (m *model) tick(time int) api.Errno {
	if time < 1 || time > 100 {
		return api.ErrTime
	}
	m.now += time
	for _, f := range m.flights {
		freed := 0
		for i, s := range f.seats {
			if s.State == api.Held && s.Until <= m.now {
				f.seats[i] = api.Seat{At: s.At}
				freed++
			}
		}
		if freed > 0 {
			f.epoch++
		}
	}
	return api.OK
}

func (m *model) sell(f *modelFlight, s *api.Seat, c api.Command) api.Errno {
	own := *s == api.Seat{At: s.At, State: api.Held, Party: c.Party, Class: c.Class, Until: s.Until}
	switch {
	case c.Class < 0 || c.Class > 3:
		return api.ErrClass
	case c.Party < 1 || c.Party > 1000:
		return api.ErrParty
	case c.Kind == api.Hold && (c.Time <= m.now || c.Time > m.now+100):
		return api.ErrTime
	case c.Kind == api.Book && own:
	case s.State != api.Free:
		return api.ErrTaken
	case f.left(c.Class) == 0:
		return api.ErrLimit
	}
	*s = api.Seat{At: s.At, State: api.Booked, Party: c.Party, Class: c.Class}
	if c.Kind == api.Hold {
		s.State, s.Until = api.Held, c.Time
	}
	return api.OK
}

func (m *model) give(f *modelFlight, s *api.Seat, c api.Command) api.Errno {
	if s.State != api.Held && s.State != api.Booked {
		return api.ErrState
	}
	if s.Party != c.Party {
		return api.ErrParty
	}
	if c.Kind == api.Move {
		to := f.seat(c.To)
		if to.State != api.Free {
			return api.ErrTaken
		}
		*to = *s
		to.At = c.To
	}
	*s = api.Seat{At: s.At}
	return api.OK
}

func (m *model) look() view {
	v := view{now: m.now}
	for n := range v.flights {
		s := &v.flights[n]
		f := m.flights[n]
		if f == nil {
			s.errno = api.ErrFlight
		} else {
			s.totals, s.epoch, s.seats = f.totals(), f.epoch, spell(f.seats)
		}
		for class := range s.left {
			s.leftErrno[class] = s.errno
			if f != nil {
				s.left[class] = min(f.left(class), 9)
			}
		}
	}
	return v
}

// randomCommand gives a command, most of whose numbers may be, but not all.
func randomCommand(r *rand.Rand, now int) api.Command {
	place := func() api.Place { return at(r.Intn(41)/10, r.Intn(41)/10) }
	c := api.Command{Kind: api.Add + r.Intn(9), Flight: 1 + r.Intn(3), At: place(), To: place(), Party: 1 + r.Intn(2), Class: r.Intn(4), Time: now + 1 + r.Intn(30)}
	switch r.Intn(30) {
	case 0:
		c.Kind = r.Intn(20) - 5
	case 1:
		c.Flight = r.Intn(40) - 10
	case 2:
		c.Party = []int{0, -1, 1000, 1001}[r.Intn(4)]
	case 3:
		c.Class = []int{-1, 4, 5}[r.Intn(3)]
	case 4:
		c.Time = now + []int{-1, 0, 1, 100, 101}[r.Intn(5)]
	}
	if c.Kind == api.Tick {
		c.Time = r.Intn(11) - 1
	}
	c.Plane = randomPlane(r)
	return c
}

// randomCursor gives a cursor into a flight of the epoch; mostly one that may be.
func randomCursor(r *rand.Rand, epoch int) api.Cursor {
	switch r.Intn(8) {
	case 0, 1:
		return api.Cursor{}
	case 2:
		return cursor(r.Intn(5), r.Intn(5), epoch-1+r.Intn(3))
	case 3:
		return cursor(r.Intn(2), r.Intn(2), 0)
	}
	return cursor(r.Intn(4), r.Intn(4), epoch)
}

func randomPlane(r *rand.Rand) api.Plane {
	p := api.Plane{Rows: r.Intn(31) / 8, Cols: r.Intn(31) / 8}
	if r.Intn(4) == 0 {
		// Enough seats for more to be left than is told.
		p.Rows += r.Intn(4)
	}
	p.Front = r.Intn(p.Rows+2) - r.Intn(2)
	most := r.Intn(20)
	for i := range p.Limits {
		p.Limits[i] = most
		most -= r.Intn(4) * r.Intn(2)
	}
	return p
}

// samePage asks keeper and model for the same page, and tells what the keeper answered.
func samePage(t *testing.T, r *rand.Rand, k *berth.Keeper, m *model) api.Errno {
	t.Helper()
	n, epoch := r.Intn(5), 0
	if f := m.flights[n]; f != nil {
		epoch = f.epoch
	}
	from, size := randomCursor(r, epoch), []int{1, 2, 3, 5, 8, 29, 30, 31, 0, -1}[r.Intn(10)]
	p, e := k.Seats(n, from, size)
	want, wantErrno := m.page(n, from, size)
	if !slices.Equal(p.Seats, want.Seats) || p.Next != want.Next || p.More != want.More || e != wantErrno {
		t.Fatalf("Seats(%d, %v, %d) = %v, %d; want %v, %d", n, from, size, p, e, want, wantErrno)
	}
	return e
}

// sameNews asks keeper and model for the same bulletin, and tells what the keeper answered, and how.
func sameNews(t *testing.T, r *rand.Rand, k *berth.Keeper, m *model) (api.Bulletin, api.Errno) {
	t.Helper()
	follower, most := r.Intn(8), []int{1, 1, 2, 3, 4, 5, 12, 50}[r.Intn(8)]
	switch r.Intn(30) {
	case 0:
		follower = []int{-1, 8, far}[r.Intn(3)]
	case 1:
		most = []int{-1, 0, 51}[r.Intn(3)]
	}
	b, e := k.Follow(follower, most)
	want, wantErrno := m.follow(follower, most)
	if spellNews(b) != spellNews(want) || e != wantErrno {
		t.Fatalf("Follow(%d, %d) = %s, %d; want %s, %d", follower, most, spellNews(b), e, spellNews(want), wantErrno)
	}
	return b, e
}

// TestP3P6P7P8P9P10P11KeeperIsAsCountingAnew runs two keepers, by turns, beside models of them.
func TestP3P6P7P8P9P10P11KeeperIsAsCountingAnew(t *testing.T) {
	type answer struct {
		kind int
		e    api.Errno
	}
	type bulletin struct {
		fresh, more bool
		any         bool
		e           api.Errno
	}
	seen, pages, bulletins := map[answer]int{}, map[api.Errno]int{}, map[bulletin]int{}
	for seed := range int64(60) {
		r := rand.New(rand.NewSource(seed))
		a, b := open(t), open(t)
		ma, mb := newModel(), newModel()
		for i := range 1500 {
			k, m := a, ma
			if r.Intn(2) == 0 {
				k, m = b, mb
			}
			c := randomCommand(r, m.now)
			want := m.do(c)
			seen[answer{c.Kind, want}]++
			if e := k.Do(c); e != want {
				t.Fatalf("seed %d, command %d: Do(%+v) = %d, want %d", seed, i, c, e, want)
			}
			if look(k) != m.look() {
				t.Fatalf("seed %d, command %d: after Do(%+v) = %d: %v, want %v", seed, i, c, want, look(k), m.look())
			}
			pages[samePage(t, r, k, m)]++
			if r.Intn(3) == 0 {
				b, e := sameNews(t, r, k, m)
				bulletins[bulletin{b.Fresh, b.More, len(b.News) > 0, e}]++
			}
		}
		if look(a) != ma.look() || look(b) != mb.look() {
			t.Fatalf("seed %d: a keeper was changed by another one", seed)
		}
	}
	for _, x := range []answer{
		{api.Add, api.OK}, {api.Add, api.ErrFlight}, {api.Add, api.ErrTwice}, {api.Add, api.ErrShape},
		{api.Hold, api.OK}, {api.Hold, api.ErrFlight}, {api.Hold, api.ErrSeat}, {api.Hold, api.ErrClass}, {api.Hold, api.ErrParty}, {api.Hold, api.ErrTime}, {api.Hold, api.ErrTaken}, {api.Hold, api.ErrLimit},
		{api.Book, api.OK}, {api.Book, api.ErrFlight}, {api.Book, api.ErrSeat}, {api.Book, api.ErrClass}, {api.Book, api.ErrParty}, {api.Book, api.ErrTaken}, {api.Book, api.ErrLimit},
		{api.Cancel, api.OK}, {api.Cancel, api.ErrSeat}, {api.Cancel, api.ErrState}, {api.Cancel, api.ErrParty},
		{api.Move, api.OK}, {api.Move, api.ErrSeat}, {api.Move, api.ErrState}, {api.Move, api.ErrParty}, {api.Move, api.ErrTaken},
		{api.Block, api.OK}, {api.Block, api.ErrSeat}, {api.Block, api.ErrTaken},
		{api.Unblock, api.OK}, {api.Unblock, api.ErrSeat}, {api.Unblock, api.ErrState},
		{api.Tick, api.OK}, {api.Tick, api.ErrTime},
		{api.Swap, api.OK}, {api.Swap, api.ErrFlight}, {api.Swap, api.ErrShape},
	} {
		if seen[x] < 20 {
			t.Errorf("kind %d was answered %d %d times only: the commands try too little", x.kind, x.e, seen[x])
		}
	}
	for _, e := range []api.Errno{api.OK, api.ErrFlight, api.ErrPage, api.ErrStale, api.ErrSeat} {
		if pages[e] < 20 {
			t.Errorf("Seats answered %d %d times only: the calls try too little", e, pages[e])
		}
	}
	for _, b := range []bulletin{
		{true, false, false, api.OK}, {true, false, true, api.OK}, {true, true, true, api.OK},
		{false, false, false, api.OK}, {false, false, true, api.OK}, {false, true, true, api.OK},
		{false, false, false, api.ErrFollow}, {false, false, false, api.ErrPage},
	} {
		if bulletins[b] < 20 {
			t.Errorf("Follow answered %v %d times only: the calls try too little", b, bulletins[b])
		}
	}
}
