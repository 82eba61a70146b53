package shard

import (
	"cartage/api"
	"cartage/disk"
	"cartage/part"
	"cartage/record"
)

// Sweep goes through intervals (L2).
type Sweep struct {
	bounds  []int
	next    int // the interval that comes next
	sources []*source
	err     api.Errno // that came, and stays
}

// source is a shard that is read, edge by edge.
type source struct {
	rest *record.Reader
	head api.Edge // that was read, but is of a later interval
	is   bool     // there is such a one
}

// NewSweep tells a sweep of a graph of n vertices by its shards (L2).
func NewSweep(d *disk.Disk, n, shards int) (*Sweep, api.Errno) {
	bounds, err := part.Bounds(n, shards)
	if err != api.OK {
		return nil, err
	}
	s := &Sweep{bounds: bounds, sources: make([]*source, shards)}
	for i := range s.sources {
		rest, err := record.NewReader(d, Name(i))
		if err != api.OK {
			return nil, err
		}
		s.sources[i] = &source{rest: rest}
	}
	return s, api.OK
}

// Next tells the edges out of the next interval, if there is one (L2).
func (s *Sweep) Next() ([]api.Edge, bool, api.Errno) {
	if s == nil {
		return nil, false, api.ErrState
	}
	if s.err != api.OK || s.next >= len(s.bounds)-1 {
		return nil, false, s.err
	}
	from, to := s.bounds[s.next], s.bounds[s.next+1]
	s.next++
	if from == to {
		return nil, true, api.OK // nothing need be read to know that an interval without vertices has no edges
	}
	var window []api.Edge
	for _, x := range s.sources {
		window, s.err = x.below(uint32(to), window)
		if s.err != api.OK {
			s.sources = nil // they are of no use any more
			return nil, false, s.err
		}
	}
	return window, true, api.OK
}

// below adds the edges of a shard, that were not told yet, to a window, as far as they are out of vertices below that one.
func (x *source) below(end uint32, window []api.Edge) ([]api.Edge, api.Errno) {
	for {
		if !x.is {
			r, is, err := x.rest.Next()
			if err != api.OK || !is {
				return window, err
			}
			x.head, x.is = edge(r), true
		}
		if x.head.From >= end {
			return window, api.OK
		}
		window = append(window, x.head)
		x.is = false
	}
}
