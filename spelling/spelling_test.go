package spelling

import (
	"math"
	"reflect"
	"testing"

	"berth/api"
	"berth/seating"
)

func place(row, col int) api.Place { return api.Place{Row: row, Col: col} }

func held(row, col, party, class, until int) seating.Fill {
	return seating.Fill{At: place(row, col), With: seating.Seat{State: api.Held, Party: party, Class: class, Until: until}}
}

func booked(row, col, party, class int) seating.Fill {
	return seating.Fill{At: place(row, col), With: seating.Seat{State: api.Booked, Party: party, Class: class}}
}

func blocked(row, col int) seating.Fill {
	return seating.Fill{At: place(row, col), With: seating.Seat{State: api.Blocked}}
}

// records gives records, one for each kind of change and for the edges of their numbers, as they come one behind the other from the time 0 on.
func records() [][]Entry {
	return [][]Entry{
		{{1, seating.Start{Plane: api.Plane{Rows: 1, Cols: 1}}}},
		{{api.MaxFlight, seating.Start{Plane: api.Plane{Rows: api.MaxRows, Cols: api.MaxCols, Front: api.MaxRows, Limits: [4]int{api.MaxLimit, 128, 127, 0}}}}},
		{{1, held(1, 1, 1, 0, 1)}},
		{{20, held(20, 6, api.MaxParty, 3, 100)}},
		{{1, booked(1, 1, 128, 1)}},
		{{20, booked(19, 5, 127, 2)}},
		{{7, blocked(1, 6)}},
		{{0, seating.Pass{Now: 1}}},
		{{7, held(2, 1, 5, 1, 101)}},
		{{0, seating.Pass{Now: 101}}},
		{{7, held(2, 1, 5, 1, 102)}},
		{{20, seating.Empty{At: place(20, 6)}}},
		{{20, seating.Shift{At: place(19, 5), To: place(1, 1)}}},
		{{7, seating.Refit{Rows: 20, Cols: 6, Front: 20}}},
		{{7, seating.Refit{Rows: 1, Cols: 1}}},
		{{7, seating.Whole{Plane: api.Plane{Rows: 2, Cols: 2, Front: 1, Limits: [4]int{4, 3, 2, 1}}, Epoch: 2}}},
		{
			{0, seating.Pass{Now: math.MaxInt - 100}},
			{2, seating.Whole{Plane: api.Plane{Rows: 2, Cols: 2, Front: 2, Limits: [4]int{4, 4, 4, 4}}, Epoch: math.MaxInt, Seats: []seating.Fill{held(1, 1, 1000, 3, math.MaxInt), booked(1, 2, 1, 0), blocked(2, 2)}}},
			{3, seating.Start{Plane: api.Plane{Rows: 1, Cols: 2}}},
		},
		{{0, seating.Pass{Now: math.MaxInt}}},
	}
}

// spell spells the records, and tells where each of them ends.
func spell(records [][]Entry) (b []byte, ends []int) {
	now := 0
	for _, entries := range records {
		b = append(b, Record(now, entries...)...)
		ends = append(ends, len(b))
		if p, ok := entries[0].Change.(seating.Pass); ok {
			now = p.Now
		}
	}
	return b, ends
}

func flat(records [][]Entry) []Entry {
	var list []Entry
	for _, entries := range records {
		list = append(list, entries...)
	}
	return list
}

func TestP5RecordsAreReadAsTheyWereSpelt(t *testing.T) {
	all := records()
	b, _ := spell(all)
	got, whole := Read(b)
	if want := flat(all); !whole || !reflect.DeepEqual(got, want) {
		t.Errorf("Read = %v, %v; want %v", got, whole, want)
	}
	if got, whole := Read(nil); len(got) != 0 || !whole {
		t.Errorf("Read of nothing = %v, %v", got, whole)
	}
}

// Of the last record any beginning has lasted, and its last byte is spoilt in any way, or not.
func TestP5PieceOfRecordIsSeen(t *testing.T) {
	all := records()
	b, ends := spell(all)
	from := 0
	for i, to := range ends {
		want := flat(all[:i])
		for n := from + 1; n <= to; n++ {
			for spoil := range 256 {
				if n == to && spoil == 0 {
					continue
				}
				piece := append([]byte(nil), b[:n]...)
				piece[n-1] ^= byte(spoil)
				if got, whole := Read(piece); whole || !reflect.DeepEqual(got, want) {
					t.Fatalf("record %d, %d of %d bytes, spoilt by %d: Read = %v, %v; want %v", i, n-from, to-from, spoil, got, whole, want)
				}
			}
		}
		from = to
	}
}

func TestP13RecordsHaveRoom(t *testing.T) {
	for _, entries := range records() {
		if _, sum := entries[0].Change.(seating.Whole); sum || len(entries) > 1 {
			continue
		}
		wantRoom(t, api.ChangeRoom, entries...)
	}
	full := seating.Whole{Plane: api.Plane{Rows: 20, Cols: 6, Front: 20, Limits: [4]int{200, 200, 200, 200}}, Epoch: math.MaxInt}
	for row := 1; row <= api.MaxRows; row++ {
		for col := 1; col <= api.MaxCols; col++ {
			full.Seats = append(full.Seats, held(row, col, api.MaxParty, 3, math.MaxInt))
		}
	}
	empty := full
	empty.Seats = nil
	late := Entry{0, seating.Pass{Now: math.MaxInt - 100}}
	wantRoom(t, api.FileRoom, late)
	free, filled := []Entry{late}, []Entry{late}
	for flight := 1; flight <= api.MaxFlight; flight++ {
		free, filled = append(free, Entry{flight, empty}), append(filled, Entry{flight, full})
		wantRoom(t, api.FileRoom+flight*api.FlightRoom, free...)
		wantRoom(t, api.FileRoom+flight*(api.FlightRoom+120*api.SeatRoom), filled...)
	}
}

// wantRoom looks whether a record needs no more than there is room for.
func wantRoom(t *testing.T, room int, entries ...Entry) {
	t.Helper()
	if n := len(Record(0, entries...)); n > room {
		t.Errorf("%d entries need %d bytes, there is room for %d", len(entries), n, room)
	}
}
