package seating

import "berth/api"

// Page tells the first so many seats behind the cursor.
func (f *Flight) Page(from api.Cursor, size int) (api.Page, api.Errno) {
	if size < 1 || size > api.MaxPage {
		return api.Page{}, api.ErrPage
	}
	first, e := f.behind(from)
	if e != api.OK {
		return api.Page{}, e
	}
	end := min(first+size, f.size())
	page := api.Page{Next: api.Cursor{At: from.At, Epoch: f.epoch}, More: end < f.size()}
	for i := first; i < end; i++ {
		at := f.placeAt(i)
		page.Seats = append(page.Seats, f.tell(at))
		page.Next.At = at
	}
	return page, api.OK
}

// behind gives how many seats are ahead of the first one behind the cursor.
func (f *Flight) behind(from api.Cursor) (int, api.Errno) {
	switch {
	case from == api.Cursor{}:
		return 0, api.OK
	case from.Epoch != f.epoch:
		return 0, api.ErrStale
	case !f.has(from.At):
		return 0, api.ErrSeat
	}
	return f.ahead(from.At) + 1, api.OK
}

// tell tells what the seat at the place is.
func (f *Flight) tell(at api.Place) api.Seat {
	s := f.seats[at]
	return api.Seat{At: at, State: s.State, Party: s.Party, Class: s.Class, Until: s.Until}
}
