package extsort

import (
	"slices"
	"strconv"

	"cartage/api"
	"cartage/disk"
	"cartage/heap"
	"cartage/record"
	"cartage/runs"
)

// sorter sorts one file, by way of rows: files of sorted records.
type sorter struct {
	d                *disk.Disk
	temp             string
	budget, fan, how int
	count            int // of the records that were read
	held             heap.Heap[api.Rec]
	rows             []int // the numbers of the rows that are there, the one that was made first ahead
	last             int   // the number that was tried last
}

// feed tells the next record, if there is one, in order. Beside an error its record is of no use.
type feed func() (api.Rec, bool, api.Errno)

// sort writes the records of in to out.
func (s *sorter) sort(in *source, out *record.Writer) api.Errno {
	if err := in.step(); err != api.OK {
		return err
	}
	if err := s.fill(in); err != api.OK {
		return err
	}
	if !in.is {
		return s.write(out, s.pop)
	}
	if err := s.cut(in); err != api.OK {
		return err
	}
	for len(s.rows) > s.fan {
		if err := s.pass(); err != api.OK {
			return err
		}
	}
	return s.merge(s.rows, out)
}

// fill has as many records of in be held as may be. They are held in a heap, since sorting a list of them by runs would
// hold them twice.
func (s *sorter) fill(in *source) api.Errno {
	for in.is && s.held.Len() < s.budget {
		s.held.Push(in.Rec)
		s.count++
		if err := in.step(); err != api.OK {
			return err
		}
	}
	return api.OK
}

// pop is a feed of what is held.
func (s *sorter) pop() (api.Rec, bool, api.Errno) {
	r, is := s.held.Pop()
	return r, is, api.OK
}

// cut writes what is held to a row, and then what else in has.
func (s *sorter) cut(in *source) api.Errno {
	for s.held.Len() > 0 {
		w, err := s.begin()
		if err != api.OK {
			return err
		}
		if err := s.write(w, s.pop); err != api.OK {
			return err
		}
		if err := s.fill(in); err != api.OK {
			return err
		}
	}
	return api.OK
}

// pass has the rows become as many as them by fan, rounded up.
func (s *sorter) pass() api.Errno {
	for piece := range slices.Chunk(s.rows, s.fan) {
		if len(piece) == 1 {
			break // it is the last one, and merged as it is
		}
		w, err := s.begin()
		if err != api.OK {
			return err
		}
		if err := s.merge(piece, w); err != api.OK {
			return err
		}
	}
	return api.OK
}

// merge writes the records of rows, the first of those that are there, to one file, and removes them.
func (s *sorter) merge(rows []int, w *record.Writer) api.Errno {
	var heads heap.Heap[*source]
	push := func(head *source) api.Errno {
		err := head.step()
		if head.is {
			heads.Push(head)
		}
		return err
	}
	for _, row := range rows {
		rest, err := record.NewReader(s.d, s.name(row))
		if err != api.OK {
			return err
		}
		if err := push(&source{rest: rest, row: row}); err != api.OK {
			return err
		}
	}
	err := s.write(w, func() (api.Rec, bool, api.Errno) {
		head, is := heads.Pop()
		if !is {
			return api.Rec{}, false, api.OK
		}
		r := head.Rec
		return r, true, push(head)
	})
	if err != api.OK {
		return err
	}
	return s.drop(len(rows))
}

// write puts what is fed into a file, those of one key combined, till there is no more, and closes it.
func (s *sorter) write(w *record.Writer, next feed) api.Errno {
	last, some, err := next()
	if err != api.OK {
		return err
	}
	for some {
		r, is, err := next()
		if err != api.OK {
			return err
		}
		if is && r.Key == last.Key && s.how != api.Keep {
			last.Val = runs.Combine(s.how, last.Val, r.Val)
			continue
		}
		if err := w.Put(last); err != api.OK {
			return err
		}
		last, some = r, is
	}
	return w.Close()
}

// begin makes a row, of the next number that no file has: what others have by such a name stays.
func (s *sorter) begin() (*record.Writer, api.Errno) {
	for {
		s.last++
		w, err := record.NewWriter(s.d, s.name(s.last))
		if err == api.OK {
			s.rows = append(s.rows, s.last)
		}
		if err != api.ErrIs {
			return w, err
		}
	}
}

// drop removes so many rows, the first ones.
func (s *sorter) drop(count int) api.Errno {
	for range count {
		if err := s.d.Remove(s.name(s.rows[0])); err != api.OK {
			return err
		}
		s.rows = s.rows[1:]
	}
	return api.OK
}

// undo removes all that was made, if the disk is up.
func (s *sorter) undo(out string) {
	if s.d.Down() {
		return
	}
	for _, row := range s.rows {
		s.d.Remove(s.name(row))
	}
	s.d.Remove(out)
}

func (s *sorter) name(row int) string { return s.temp + "." + strconv.Itoa(row) }
