// Package spelling: how changes are spelt as bytes, and how it is seen whether all the bytes of a record have lasted.
package spelling

import (
	"berth/api"
	"berth/seating"
)

// Entry is a change, and the number of the flight that it is done to; no number counts where it is done to all of them.
type Entry struct {
	Flight int
	Change seating.Change
}

// The kinds of changes, as they are spelt.
const (
	start = iota + 1
	fill
	empty
	shift
	refit
	pass
	whole
)

// A kind and the number of a flight are one byte together.
const (
	flightBits = 5
	flightMask = 1<<flightBits - 1
)

// end stands behind a record. Of one that was not synced a beginning may last, with its last byte spoilt; but as the bytes ahead of end tell by themselves where they end, no such beginning has end in its place. Where it is, all that is ahead of it is as it was written.
const end = 0xE5

// Record spells entries as one record, of which all are read or none. It is now when the first of them is done.
func Record(now int, entries ...Entry) []byte {
	w := writer{now: now}
	w.number(len(entries))
	for _, x := range entries {
		w.entry(x)
	}
	return append(w.b, end)
}

// writer is the bytes of a record so far, and what time it is behind them: times are spelt as how much later they are, which is short.
type writer struct {
	b   []byte
	now int
}

func (w *writer) entry(x Entry) {
	switch c := x.Change.(type) {
	case seating.Start:
		w.head(start, x.Flight)
		w.plane(c.Plane)
	case seating.Fill:
		w.head(fill, x.Flight)
		w.fill(c)
	case seating.Empty:
		w.head(empty, x.Flight)
		w.place(c.At)
	case seating.Shift:
		w.head(shift, x.Flight)
		w.place(c.At)
		w.place(c.To)
	case seating.Refit:
		w.head(refit, x.Flight)
		w.shape(c.Rows, c.Cols, c.Front)
	case seating.Pass:
		w.head(pass, 0)
		w.number(c.Now - w.now)
		w.now = c.Now
	case seating.Whole:
		w.head(whole, x.Flight)
		w.whole(c)
	}
}

func (w *writer) head(kind, flight int) {
	w.b = append(w.b, byte(kind<<flightBits|flight))
}

// number spells seven bits a byte, the least ones first; the eighth bit tells that there are more of them.
func (w *writer) number(n int) {
	for n >= 0x80 {
		w.b = append(w.b, byte(n)|0x80)
		n >>= 7
	}
	w.b = append(w.b, byte(n))
}

func (w *writer) place(at api.Place) {
	w.number((at.Row-1)*api.MaxCols + at.Col - 1)
}

func (w *writer) shape(rows, cols, front int) {
	w.number(rows)
	w.number(cols)
	w.number(front)
}

func (w *writer) plane(p api.Plane) {
	w.shape(p.Rows, p.Cols, p.Front)
	for _, limit := range p.Limits {
		w.number(limit)
	}
}

// fill spells of the seat what it has by its state alone.
func (w *writer) fill(c seating.Fill) {
	w.place(c.At)
	s := c.With
	w.number(s.State*api.Classes + s.Class)
	if s.State != api.Blocked {
		w.number(s.Party)
	}
	if s.State == api.Held {
		w.number(s.Until - w.now)
	}
}

func (w *writer) whole(c seating.Whole) {
	w.plane(c.Plane)
	w.number(c.Epoch)
	w.number(len(c.Seats))
	for _, s := range c.Seats {
		w.fill(s)
	}
}
