// Package storing: where on the tape records lie, so that those that were answered for outlast its death at any moment.
package storing

import (
	"berth/api"
	"berth/spelling"
	"berth/tape"
)

// Store is one of the first two files of a tape, which has all records; the other one has bytes only while the records are replaced.
type Store struct {
	tape *tape.Tape // nil: it was found dead, and is not used any more
	file int
	torn bool // at the end of the file there is a piece of a record
}

// Open gives the store that the tape has, and the entries of all its records.
func Open(t *tape.Tape) (Store, []spelling.Entry, api.Errno) {
	kept, left := find(t, 0), find(t, 1)
	if left.better(kept) {
		kept, left = left, kept
	}
	// What has been read is answered for from now on: it may not have been synced yet.
	if kept.size > 0 && !t.Sync(kept.file) || left.size > 0 && !t.Clear(left.file) {
		return Store{}, nil, api.ErrDead
	}
	return Store{tape: t, file: kept.file, torn: !kept.all}, kept.entries, api.OK
}

// found is what a file was found to have.
type found struct {
	file, size int
	entries    []spelling.Entry
	all        bool // there is nothing behind the records
}

func find(t *tape.Tape, file int) found {
	b := t.Read(file)
	entries, all := spelling.Read(b)
	return found{file: file, size: len(b), entries: entries, all: all}
}

// better tells whether this file is to be kept rather than the other one. If both have records they were being replaced: both tell the same.
func (f found) better(other found) bool {
	return len(f.entries) > 0 && (len(other.entries) == 0 || f.size < other.size)
}

// Torn tells whether there is a piece of a record at the end. Nothing may be laid behind it, as both together might be read as a record that was never written; the records must be replaced first.
func (s *Store) Torn() bool { return s.torn }

// Append lays a record behind the others.
func (s *Store) Append(record []byte) api.Errno {
	if e := s.ask(len(record)); e != api.OK {
		return e
	}
	if !s.write(s.file, record) {
		return s.die()
	}
	return api.OK
}

// Replace lays a record in the place of all others. It tells the same as they do, or is empty if they tell nothing.
func (s *Store) Replace(record []byte) api.Errno {
	if e := s.ask(len(record)); e != api.OK {
		return e
	}
	other := 1 - s.file
	if len(record) > 0 && !s.write(other, record) {
		return s.die()
	}
	// Not ahead of this: what takes their place must be there for good.
	if !s.tape.Clear(s.file) {
		return s.die()
	}
	s.file, s.torn = other, false
	return api.OK
}

// Shorten lays a record in the place of all others, as Replace does, if that makes the tape shorter.
func (s *Store) Shorten(record []byte) api.Errno {
	if s.tape != nil && len(s.tape.Read(s.file)) <= len(record) {
		return api.OK
	}
	return s.Replace(record)
}

// ask tells what is against laying so many bytes on the tape.
func (s *Store) ask(bytes int) api.Errno {
	switch {
	case s.tape == nil:
		return api.ErrShut
	case !s.tape.Fits(bytes):
		return api.ErrSpace
	}
	return api.OK
}

// write lays bytes behind those of a file, for good.
func (s *Store) write(file int, b []byte) bool {
	return s.tape.Append(file, b) && s.tape.Sync(file)
}

// die lets go of the tape: what lasts of that which was not answered for is seen when it is opened anew.
func (s *Store) die() api.Errno {
	s.tape = nil
	return api.ErrDead
}
