package extsort

import (
	"cartage/api"
	"cartage/record"
)

// source is a file of records that is read. It holds the first one that was not taken yet, of the block that its reader
// holds the rest of.
type source struct {
	api.Rec
	is   bool // there is such a one
	rest *record.Reader
	row  int
}

// Before tells whether a source's record stands ahead of another one's. Of two with the same record one has to, so that a
// heap of them has one order: the row's number says which.
func (s *source) Before(o *source) bool {
	switch {
	case s.Key != o.Key:
		return s.Key < o.Key
	case s.Val != o.Val:
		return s.Val < o.Val
	}
	return s.row < o.row
}

// step goes on to the next record.
func (s *source) step() (err api.Errno) {
	s.Rec, s.is, err = s.rest.Next()
	return err
}
