package extsort_test

import (
	"maps"
	"reflect"
	"regexp"
	"slices"
	"testing"

	"cartage/api"
	"cartage/record"
)

// onTheWay tells whether a name is one of a file on the way of plain calls.
var onTheWay = regexp.MustCompile(`^t\.(0|-?[1-9][0-9]*)$`).MatchString

// look is what a disk has ahead of an operation: its files as they are now, and as they were synced.
type look struct{ now, synced map[string]string }

// watch looks on while a file of these records is sorted: ahead of each operation, and behind the last one. (A disk that
// crashes ahead of it shows the one, if all stays, and the other one, if nothing does.)
func watch(t *testing.T, c call, l []api.Rec) []look {
	t.Helper()
	at := func(op int, keep []bool) (map[string]string, bool) {
		d := withIn(t, 100000, l)
		d.Arm(op, keep)
		_, err := c.sort(d)
		if err != api.OK && err != api.ErrDown {
			t.Fatalf("%+v: %v", c, err)
		}
		d.Arm(0, nil)
		d.Restart()
		return files(t, d), err == api.OK
	}
	var seen []look
	for op := 1; ; op++ {
		now, done := at(op, slices.Repeat([]bool{true}, 10000))
		synced, _ := at(op, nil)
		seen = append(seen, look{now, synced})
		if done {
			return seen
		}
	}
}

// The kinds of what an operation did.
const (
	silent = iota // nothing: it read, or asked for a size
	made
	grew
	synced
	gone
)

// event is an operation, and the file that it changed.
type event struct {
	kind int
	name string
	size int // of the file, behind it
}

// events tells what was done from look to look.
func events(t *testing.T, seen []look) []event {
	t.Helper()
	var all []event
	for i := range seen[1:] {
		was, is := seen[i], seen[i+1]
		e := event{}
		for _, name := range slices.Sorted(maps.Keys(is.now)) {
			before, there := was.now[name]
			switch {
			case !there:
				e = event{made, name, 0}
			case before != is.now[name]:
				e = event{grew, name, len(is.now[name])}
			case was.synced[name] != is.synced[name]:
				e = event{synced, name, len(is.now[name])}
			}
		}
		for _, name := range slices.Sorted(maps.Keys(was.now)) {
			if _, there := is.now[name]; !there {
				e = event{gone, name, 0}
			}
		}
		all = append(all, e)
	}
	return all
}

// blocks and records tell how many a file of so many bytes has.
func blocks(size int) int  { return (size + 805) / 806 }
func records(size int) int { return (size - 6*blocks(size)) / 16 }

// distinct tells n records of as many keys, so that none are combined.
func distinct(n int) []api.Rec {
	l := make([]api.Rec, n)
	for i := range l {
		l[i] = api.Rec{Key: uint64(i) * 0x9e3779b97f4a7c15, Val: uint64(i)}
	}
	return l
}

// TestOnTheWay: what is made is out, and rows by names that are told, none of which is left; in stays at all times.
func TestOnTheWay(t *testing.T) {
	for _, c := range crashes() {
		l := distinct(230)
		seen := watch(t, c, l)
		rows := 0
		for i, e := range events(t, seen) {
			if e.kind != silent && e.name != "out" && !onTheWay(e.name) {
				t.Errorf("%+v, operation %d: %+v", c, i+1, e)
			}
			if e.kind == made && onTheWay(e.name) {
				rows++
			}
			if seen[i].now["in"] != seen[0].now["in"] || seen[i].now["other"] != "o" {
				t.Errorf("%+v, operation %d: in or another file is another one", c, i+1)
			}
		}
		if (rows > 0) != (c.budget < len(l)) {
			t.Errorf("%+v: %d files on the way", c, rows)
		}
	}
}

// TestHeldWhenCut: what was read of in, and is not in a row yet, is never more than the budget, and the blocks that may be held.
func TestHeldWhenCut(t *testing.T) {
	for _, c := range []call{plain(3, 2, api.Keep), plain(7, 2, api.Keep), plain(49, 3, api.Sum), plain(50, 2, api.Min), plain(120, 4, api.Keep), plain(400, 2, api.Keep)} {
		l := distinct(c.budget + (c.fan+1)*record.Many + 70) // more than may be held
		read, written, all := 0, 0, events(t, watch(t, c, l))
		if all[0].kind != silent || all[1] != (event{made, "out", 0}) {
			t.Fatalf("%+v begins by %+v", c, all[:2])
		}
		held := map[string]int{}
		for i, e := range all[2:] {
			switch e.kind {
			case silent:
				read = min(read+50, len(l))
			case grew:
				written += records(e.size) - held[e.name]
				held[e.name] = records(e.size)
			}
			if held[e.name] > c.budget {
				t.Fatalf("%+v, operation %d: a row of %d records", c, i, held[e.name])
			}
			if more := read - written; more > c.budget+(c.fan+1)*record.Many {
				t.Fatalf("%+v, operation %d: %d records are held", c, i, more)
			}
			if written == len(l) {
				break // from here on rows are merged
			}
		}
		if written != len(l) || len(held) != (len(l)-1)/c.budget+1 {
			t.Errorf("%+v: %d records in %d rows", c, written, len(held))
		}
	}
}

// TestHeldWhenMerged: never more rows are merged than the fan, and never more of their blocks were read, and are not in what
// they are merged to, than one of each, and one.
func TestHeldWhenMerged(t *testing.T) {
	for _, c := range []call{plain(50, 2, api.Keep), plain(50, 3, api.Sum), plain(100, 2, api.Min), plain(150, 4, api.Keep), plain(100, 100, api.Keep)} {
		l := distinct(1000) // all blocks of all rows are full
		all := events(t, watch(t, c, l))
		last := 0
		for rows := (len(l)-1)/c.budget + 1; rows > 0; last++ {
			if all[last].kind == synced {
				rows--
			}
		}
		var merged []event
		for i, e := range all[last:] {
			merged = append(merged, e)
			// A merge ends by the removal of its rows.
			if e.kind == gone && (last+i+1 == len(all) || all[last+i+1].kind != gone) {
				oneMerge(t, c, merged)
				merged = nil
			}
		}
		if len(merged) > 0 || last == len(all) {
			t.Errorf("%+v ends by %+v", c, merged)
		}
	}
}

// oneMerge looks at the operations of one.
func oneMerge(t *testing.T, c call, merged []event) {
	t.Helper()
	rows := 0
	for _, e := range merged {
		if e.kind == gone {
			rows++
		}
	}
	if rows < 2 || rows > c.fan {
		t.Fatalf("%+v: %d rows are merged", c, rows)
	}
	read := -rows // the size of each is asked, once
	for _, e := range merged {
		switch e.kind {
		case silent:
			read++
		case grew:
			// This block was held ahead of that.
			if held := read - blocks(e.size) + 1; held > c.fan+1 {
				t.Fatalf("%+v: %d blocks are held", c, held)
			}
		}
	}
}

// TestSameAnswers is R4: the same calls have the same answers, and do the same, one operation behind the other.
func TestSameAnswers(t *testing.T) {
	for _, c := range crashes() {
		if l := some(130); !reflect.DeepEqual(watch(t, c, l), watch(t, c, l)) {
			t.Errorf("%+v: the same calls do other things", c)
		}
	}
}

// TestApart is R3: sorts of one disk, and of two, have nothing to do with each other.
func TestApart(t *testing.T) {
	l := some(100)
	d, e := withIn(t, 10000, l), withIn(t, 10000, l)
	plain(7, 2, api.Keep).sorts(t, d, l)
	call{"in", "by sum", "t", 7, 2, api.Sum}.sorts(t, d, l)
	call{"out", "by min", "t", 3, 4, api.Min}.sorts(t, d, l)
	e.Crash(nil)
	call{"by sum", "again", "t", 7, 2, api.Keep}.sorts(t, d, model(l, api.Sum))
	e.Restart()
	plain(7, 2, api.Min).sorts(t, e, l)
	reads(t, d, "out", model(l, api.Keep))
}
