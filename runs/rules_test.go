package runs_test

import (
	"reflect"
	"slices"
	"testing"

	"cartage/api"
	"cartage/runs"
)

// roomy tells a row with room behind it, in which other records stand.
func roomy(l []api.Rec) []api.Rec {
	all := append(slices.Clone(l), recs(70, 7, 60, 6, 50, 5)...)
	return all[:len(l)]
}

// spoil writes over a row, and over the room behind it.
func spoil(l []api.Rec) {
	l = l[:cap(l)]
	for i := range l {
		l[i] = api.Rec{Key: 99, Val: 99}
	}
}

// TestHandedIn is R1: rows stay as they were, and the room behind them, also where a call answers an error.
func TestHandedIn(t *testing.T) {
	d := dice(1)
	for range 300 {
		l := roomy(d.row(20))
		was := slices.Clone(l[:cap(l)])
		for _, how := range append(hows(), -1, 3) {
			runs.Sorted(l, how)
			for _, budget := range []int{0, 1, 3, 100} {
				runs.Cut(l, budget, how)
			}
			runs.Merge([][]api.Rec{l}, how)
			runs.Merge([][]api.Rec{l, l[len(l)/2:], l[:len(l)/2]}, how)
			if !slices.Equal(l[:cap(l)], was) {
				t.Fatalf("%v was handed in, and is %v", was, l[:cap(l)])
			}
		}
	}
}

// TestRowsHandedIn is R1: a list of rows stays as it was, and the room behind it.
func TestRowsHandedIn(t *testing.T) {
	all := [][]api.Rec{recs(5, 5, 1, 1), nil, recs(3, 3), {}, recs(9, 9, 8, 8)}
	was := make([][]api.Rec, len(all))
	for i := range all {
		was[i] = slices.Clone(all[i])
	}
	for _, how := range append(hows(), -1, 3) {
		for n := range len(all) + 1 {
			runs.Merge(all[:n], how)
			if !reflect.DeepEqual(all, was) {
				t.Fatalf("%v was handed in, and is %v", was, all)
			}
		}
	}
}

// answers tells what calls by that how answer of a row, each as rows.
func answers(l []api.Rec, how int) [][][]api.Rec {
	s, _ := runs.Sorted(l, how)
	list := [][][]api.Rec{{s}}
	for _, budget := range []int{1, 2, 100} {
		c, _ := runs.Cut(l, budget, how)
		list = append(list, c)
	}
	for _, rows := range [][][]api.Rec{{l}, {nil, l, {}}, {l[:1], l[1:]}} {
		m, _ := runs.Merge(rows, how)
		list = append(list, [][]api.Rec{m})
	}
	return list
}

// TestAnswersAreTheCallers is R1: what is answered shares nothing with what was handed in, whichever of them is written over,
// and no two rows of answers share anything.
func TestAnswersAreTheCallers(t *testing.T) {
	for _, how := range hows() {
		for _, l := range [][]api.Rec{recs(1, 1), recs(1, 1, 2, 2, 3, 3), recs(3, 3, 2, 2, 1, 1), recs(4, 4, 4, 4, 4, 4)} {
			row := roomy(l)
			was := slices.Clone(row[:cap(row)])
			want := slices.Concat(answers(l, how)...)
			got := slices.Concat(answers(row, how)...)
			for i := range got {
				if !reflect.DeepEqual(got[i:], want[i:]) {
					t.Fatalf("by %d: behind answer %d, that is written over, are %v, want %v", how, i-1, got[i:], want[i:])
				}
				spoil(got[i])
			}
			if !slices.Equal(row[:cap(row)], was) {
				t.Errorf("by %d: answers are written over, and what was handed in is %v, and was %v", how, row[:cap(row)], was)
			}
			got = slices.Concat(answers(row, how)...)
			spoil(row)
			if !reflect.DeepEqual(got, want) {
				t.Errorf("by %d: what was handed in is written over, and answers are %v, want %v", how, got, want)
			}
		}
	}
}

// TestNothingIsKept is R3 and R4: the same calls have the same answers, whatever was called between.
func TestNothingIsKept(t *testing.T) {
	told := func(between func()) (list []any) {
		d := dice(4)
		for range 200 {
			l, budget := d.row(30), 1+d.roll(40)
			for _, how := range append(hows(), 3) {
				between()
				s, err := runs.Sorted(l, how)
				list = append(list, s, err)
				between()
				c, err := runs.Cut(l, budget, how)
				list = append(list, c, err)
				between()
				m, err := runs.Merge(c, how)
				list = append(list, m, err, runs.Combine(how, uint64(budget), 20))
			}
		}
		return list
	}
	d := dice(5)
	between := func() {
		l := d.row(9)
		runs.Sorted(l, d.roll(4))
		runs.Cut(l, d.roll(4), d.roll(4))
		runs.Merge([][]api.Rec{l, l}, d.roll(4))
	}
	want := told(func() {})
	if !reflect.DeepEqual(told(func() {}), want) || !reflect.DeepEqual(told(between), want) {
		t.Error("the same calls have other answers")
	}
}

// TestWhatever is R2 and R5: whatever is handed in, a call answers, and nothing beside an error.
func TestWhatever(t *testing.T) {
	numbers := append(wrong(), 0, 1, 2, 5)
	rows := [][]api.Rec{nil, {}, recs(0, 0), recs(most, most, most, most), recs(1, 2, 1, 2, 0, 3)}
	for _, how := range numbers {
		known := slices.Contains(hows(), how)
		for i, l := range rows {
			s, err := runs.Sorted(l, how)
			if (err == api.OK) != known || err != api.OK && s != nil {
				t.Errorf("Sorted(%v, %d) = %v, %v", l, how, s, err)
			}
			for _, budget := range numbers {
				c, err := runs.Cut(l, budget, how)
				if (err == api.OK) != (known && budget >= 1) || err != api.OK && c != nil {
					t.Errorf("Cut(%v, %d, %d) = %v, %v", l, budget, how, c, err)
				}
			}
			m, err := runs.Merge(rows[:i], how)
			if (err == api.OK) != known || err != api.OK && m != nil {
				t.Errorf("Merge(%v, %d) = %v, %v", rows[:i], how, m, err)
			}
		}
	}
}
