// Package berth: a keeper of seats, their counts and their news: see DOC.md.
package berth

import (
	"berth/api"
	"berth/following"
	"berth/seating"
	"berth/spelling"
	"berth/storing"
	"berth/tape"
)

// Keeper is a keeper of seats, on a tape. Its methods never panic, not even at the nil that Open answers beside an error.
type Keeper struct {
	now       int
	flights   [api.MaxFlight + 1]*seating.Flight // by their numbers; nil: there is no such flight
	followers [api.Followers]following.Follower
	store     storing.Store
}

// Open gives the keeper whose tape this is (P4).
func Open(t *tape.Tape) (*Keeper, api.Errno) {
	if t == nil || t.Room() < api.FileRoom {
		return nil, api.ErrSpace
	}
	store, entries, e := storing.Open(t)
	if e != api.OK {
		return nil, e
	}
	k := &Keeper{store: store}
	for _, x := range entries {
		k.apply(x)
	}
	return k, api.OK
}

// Do does a command (P6 to P8).
func (k *Keeper) Do(c api.Command) api.Errno {
	change, e := k.look(c)
	if e != api.OK {
		return e
	}
	x := spelling.Entry{Flight: c.Flight, Change: change}
	if e := k.save(x); e != api.OK {
		return e
	}
	k.apply(x)
	return api.OK
}

// save lays a change on the tape, where it lasts.
func (k *Keeper) save(x spelling.Entry) api.Errno {
	if k == nil {
		return api.ErrShut
	}
	if k.store.Torn() {
		if e := k.store.Replace(k.whole()); e != api.OK {
			return e
		}
	}
	return k.store.Append(spelling.Record(k.now, x))
}

// whole spells as one record what the keeper has become; it is empty if nothing has changed yet.
func (k *Keeper) whole() []byte {
	var entries []spelling.Entry
	if k.now > 0 {
		entries = append(entries, spelling.Entry{Change: seating.Pass{Now: k.now}})
	}
	for number, f := range k.flights {
		if f != nil {
			entries = append(entries, spelling.Entry{Flight: number, Change: f.Whole()})
		}
	}
	if len(entries) == 0 {
		return nil
	}
	return spelling.Record(0, entries...)
}

// look looks over a command: the change that it is, or why it is none.
func (k *Keeper) look(c api.Command) (seating.Change, api.Errno) {
	switch {
	case c.Kind < api.Add || c.Kind > api.Swap:
		return nil, api.ErrKind
	case c.Kind == api.Tick:
		return seating.LookTick(c.Time, k.Now())
	case c.Flight < 1 || c.Flight > api.MaxFlight:
		return nil, api.ErrFlight
	}
	f := k.find(c.Flight)
	switch {
	case c.Kind == api.Add && f != nil:
		return nil, api.ErrTwice
	case c.Kind == api.Add:
		return seating.LookAdd(c.Plane)
	case f == nil:
		return nil, api.ErrFlight
	}
	return f.Look(c, k.now)
}

// find gives the flight of the number, or nil.
func (k *Keeper) find(number int) *seating.Flight {
	if k == nil || number < 1 || number > api.MaxFlight {
		return nil
	}
	return k.flights[number]
}

// apply does a change: to its flight or, if time passes, to all of them.
func (k *Keeper) apply(x spelling.Entry) {
	if pass, ok := x.Change.(seating.Pass); ok {
		k.pass(pass)
		return
	}
	if k.flights[x.Flight] == nil {
		k.flights[x.Flight] = &seating.Flight{}
	}
	x.Change.Do(k.flights[x.Flight])
}

// pass lets time pass for all flights.
func (k *Keeper) pass(p seating.Pass) {
	k.now = p.Now
	for _, f := range k.flights {
		if f != nil {
			p.Do(f)
		}
	}
}

// Now tells the time (P9).
func (k *Keeper) Now() int {
	if k == nil {
		return 0
	}
	return k.now
}

// Left tells how many of a class are left (P9).
func (k *Keeper) Left(flight int, class int) (int, api.Errno) {
	f := k.find(flight)
	switch {
	case f == nil:
		return 0, api.ErrFlight
	case class < 0 || class >= api.Classes:
		return 0, api.ErrClass
	}
	return f.Left()[class], api.OK
}

// Count tells how many seats are in each state (P9).
func (k *Keeper) Count(flight int) (api.Totals, api.Errno) {
	f := k.find(flight)
	if f == nil {
		return api.Totals{}, api.ErrFlight
	}
	return f.Totals(), api.OK
}

// Seats tells a page of seats (P10).
func (k *Keeper) Seats(flight int, from api.Cursor, size int) (api.Page, api.Errno) {
	f := k.find(flight)
	if f == nil {
		return api.Page{}, api.ErrFlight
	}
	return f.Page(from, size)
}

// Follow tells a follower news (P11).
func (k *Keeper) Follow(follower int, most int) (api.Bulletin, api.Errno) {
	switch {
	case follower < 0 || follower >= api.Followers:
		return api.Bulletin{}, api.ErrFollow
	case most < 1 || most > api.MaxNews:
		return api.Bulletin{}, api.ErrPage
	case k == nil:
		return api.Bulletin{}, api.OK
	}
	return k.followers[follower].Tell(k.flights[:], most), api.OK
}

// Pack makes the tape short (P12).
func (k *Keeper) Pack() api.Errno {
	if k == nil {
		return api.ErrShut
	}
	return k.store.Shorten(k.whole())
}
