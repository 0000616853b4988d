// Package following: what those who follow were told, and what is news to them.
package following

import (
	"berth/api"
	"berth/seating"
)

// nothing stands where a follower has been told nothing; no number of seats is the same.
const nothing = -1

// Follower is one who follows. The empty Follower has had no bulletin yet.
type Follower struct {
	told map[[2]int]int // what is left, as it was told last, by the flight and the class; nil: there was no bulletin
}

// Tell gives the follower a bulletin, with so many news at most; flights are by their numbers, and nil where there is none.
func (f *Follower) Tell(flights []*seating.Flight, most int) api.Bulletin {
	b := api.Bulletin{Fresh: f.told == nil}
	if b.Fresh {
		f.told = map[[2]int]int{}
	}
	for number, flight := range flights {
		if flight != nil {
			f.tellOf(number, flight.Left(), most, &b)
		}
	}
	return b
}

// tellOf puts into the bulletin what is news of a flight, and remembers that it was told.
func (f *Follower) tellOf(number int, left [api.Classes]int, most int, b *api.Bulletin) {
	was := f.wasTold(number)
	if left == was {
		return
	}
	for class, n := range left {
		switch {
		case n == was[class]:
		case len(b.News) == most:
			// What is not told now is news still when the follower asks again.
			b.More = true
		default:
			b.News = append(b.News, api.News{Flight: number, Class: class, Left: n})
			f.told[[2]int{number, class}] = n
		}
	}
}

// wasTold gives what the follower was told last of each class of a flight.
func (f *Follower) wasTold(number int) [api.Classes]int {
	var was [api.Classes]int
	for class := range was {
		n, told := f.told[[2]int{number, class}]
		if !told {
			n = nothing
		}
		was[class] = n
	}
	return was
}
