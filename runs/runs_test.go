package runs_test

import (
	"math"
	"slices"
	"testing"

	"cartage/api"
	"cartage/runs"
)

const most = math.MaxUint64

// hows tells the three.
func hows() []int { return []int{api.Keep, api.Sum, api.Min} }

// recs tells records of keys and values, by turns.
func recs(numbers ...uint64) []api.Rec {
	var l []api.Rec
	for pair := range slices.Chunk(numbers, 2) {
		l = append(l, api.Rec{Key: pair[0], Val: pair[1]})
	}
	return l
}

// sorted asks for Sorted.
func sorted(t *testing.T, l []api.Rec, how int, want []api.Rec) {
	t.Helper()
	if got, err := runs.Sorted(l, how); err != api.OK || !slices.Equal(got, want) {
		t.Errorf("Sorted(%v, %d) = %v, %v, want %v", l, how, got, err, want)
	}
}

// cut asks for Cut.
func cut(t *testing.T, l []api.Rec, budget, how int, want ...[]api.Rec) {
	t.Helper()
	if got, err := runs.Cut(l, budget, how); err != api.OK || !slices.EqualFunc(got, want, slices.Equal) {
		t.Errorf("Cut(%v, %d, %d) = %v, %v, want %v", l, budget, how, got, err, want)
	}
}

// merge asks for Merge.
func merge(t *testing.T, l [][]api.Rec, how int, want []api.Rec) {
	t.Helper()
	if got, err := runs.Merge(l, how); err != api.OK || !slices.Equal(got, want) {
		t.Errorf("Merge(%v, %d) = %v, %v, want %v", l, how, got, err, want)
	}
}

// TestExample is the chapter's.
func TestExample(t *testing.T) {
	sorted(t, recs(2, 5, 1, 1, 2, 3), api.Sum, recs(1, 1, 2, 8))
}

func TestCombine(t *testing.T) {
	for _, v := range []struct{ a, b, sum, least uint64 }{
		{0, 0, 0, 0},
		{2, 3, 5, 2},
		{3, 2, 5, 2},
		{7, 7, 14, 7},
		{0, 9, 9, 0},
		{9, 0, 9, 0},
		{1 << 32, 1 << 32, 1 << 33, 1 << 32},
		{1 << 63, 1<<63 - 1, most, 1<<63 - 1},
		{1 << 63, 1 << 63, most, 1 << 63},
		{1 << 63, 1<<63 + 5, most, 1 << 63},
		{most, 0, most, 0},
		{0, most, most, 0},
		{most - 1, 1, most, 1},
		{most, 1, most, 1},
		{1, most, most, 1},
		{most, most, most, most},
	} {
		if got := runs.Combine(api.Sum, v.a, v.b); got != v.sum {
			t.Errorf("Combine(Sum, %d, %d) = %d, want %d", v.a, v.b, got, v.sum)
		}
		// Whatever else how is, a wrong one among them, it is the lesser one.
		for _, how := range append(wrong(), api.Keep, api.Min) {
			if got := runs.Combine(how, v.a, v.b); got != v.least {
				t.Errorf("Combine(%d, %d, %d) = %d, want %d", how, v.a, v.b, got, v.least)
			}
		}
	}
}

// wrong tells hows that are none of the three, some of them one of the three if they are cut to fewer bits.
func wrong() []int {
	return []int{-1, 3, -2, 4, 256, 257, 1 << 16, 1 << 32, 1<<32 + 1, 1<<32 + 2, math.MinInt, math.MinInt + 1, math.MaxInt}
}

// TestWrongHow: ErrArg and nothing else, whatever else there is to say.
func TestWrongHow(t *testing.T) {
	for _, how := range wrong() {
		for _, l := range [][]api.Rec{nil, {}, recs(1, 2), recs(3, 1, 1, 9, 3, 0)} {
			if got, err := runs.Sorted(l, how); len(got) != 0 || err != api.ErrArg {
				t.Errorf("Sorted(%v, %d) = %v, %v", l, how, got, err)
			}
			for _, budget := range []int{-1, 0, 1, 2, 100} {
				if got, err := runs.Cut(l, budget, how); len(got) != 0 || err != api.ErrArg {
					t.Errorf("Cut(%v, %d, %d) = %v, %v", l, budget, how, got, err)
				}
			}
			for _, rows := range [][][]api.Rec{nil, {}, {l}, {l, nil, l}} {
				if got, err := runs.Merge(rows, how); len(got) != 0 || err != api.ErrArg {
					t.Errorf("Merge(%v, %d) = %v, %v", rows, how, got, err)
				}
			}
		}
	}
}

// TestWrongBudget: ErrArg and nothing else, of no records, too.
func TestWrongBudget(t *testing.T) {
	for _, budget := range []int{0, -1, -2, math.MinInt} {
		for _, how := range hows() {
			for _, l := range [][]api.Rec{nil, {}, recs(1, 2), recs(3, 1, 1, 9, 3, 0)} {
				if got, err := runs.Cut(l, budget, how); len(got) != 0 || err != api.ErrArg {
					t.Errorf("Cut(%v, %d, %d) = %v, %v", l, budget, how, got, err)
				}
			}
		}
	}
}

func TestSorted(t *testing.T) {
	for _, v := range []struct{ l, keep, sum, least []api.Rec }{
		{nil, nil, nil, nil},
		{[]api.Rec{}, nil, nil, nil},
		{recs(0, 0), recs(0, 0), recs(0, 0), recs(0, 0)},
		{recs(1, 2, 3, 4), recs(1, 2, 3, 4), recs(1, 2, 3, 4), recs(1, 2, 3, 4)},
		{recs(3, 4, 1, 2), recs(1, 2, 3, 4), recs(1, 2, 3, 4), recs(1, 2, 3, 4)},
		// A lesser value does not stand ahead of a lesser key.
		{recs(2, 1, 1, 2), recs(1, 2, 2, 1), recs(1, 2, 2, 1), recs(1, 2, 2, 1)},
		{recs(5, 2, 5, 1, 5, 3), recs(5, 1, 5, 2, 5, 3), recs(5, 6), recs(5, 1)},
		{recs(5, 7, 5, 7, 5, 7), recs(5, 7, 5, 7, 5, 7), recs(5, 21), recs(5, 7)},
		{recs(0, 0, 0, 0), recs(0, 0, 0, 0), recs(0, 0), recs(0, 0)},
		{recs(0, 3, 0, 0, 0, 5), recs(0, 0, 0, 3, 0, 5), recs(0, 8), recs(0, 0)},
		{
			recs(3, 1, 1, 9, 3, 0, 1, 9, 2, 4),
			recs(1, 9, 1, 9, 2, 4, 3, 0, 3, 1), recs(1, 18, 2, 4, 3, 1), recs(1, 9, 2, 4, 3, 0),
		},
		// Keys and values have no sign, and all of their 64 bits count.
		{
			recs(most, 1, 0, 1, 1<<63, 1, 1<<63-1, 1, 1<<32, 1, 1, 1),
			recs(0, 1, 1, 1, 1<<32, 1, 1<<63-1, 1, 1<<63, 1, most, 1),
			recs(0, 1, 1, 1, 1<<32, 1, 1<<63-1, 1, 1<<63, 1, most, 1),
			recs(0, 1, 1, 1, 1<<32, 1, 1<<63-1, 1, 1<<63, 1, most, 1),
		},
		{
			recs(4, 1<<63, 4, 1<<63-2, 4, 1, 5, most, 5, 0),
			recs(4, 1, 4, 1<<63-2, 4, 1<<63, 5, 0, 5, most), recs(4, most, 5, most), recs(4, 1, 5, 0),
		},
		// No more than the greatest number, however many more come.
		{
			recs(most, most, 4, 1<<63, most, 3, 4, 1<<63, 4, 1<<63, most, most),
			recs(4, 1<<63, 4, 1<<63, 4, 1<<63, most, 3, most, most, most, most), recs(4, most, most, most), recs(4, 1<<63, most, 3),
		},
	} {
		sorted(t, v.l, api.Keep, v.keep)
		sorted(t, v.l, api.Sum, v.sum)
		sorted(t, v.l, api.Min, v.least)
		sorted(t, v.keep, api.Keep, v.keep)
		sorted(t, v.sum, api.Sum, v.sum)
		sorted(t, v.least, api.Min, v.least)
	}
}

// TestCut: what is combined is combined in each piece alone, and pieces stay in their order, whatever is in them.
func TestCut(t *testing.T) {
	l := recs(9, 3, 9, 1, 2, 5, 2, 5, 1, 1)
	cut(t, l, 1, api.Keep, recs(9, 3), recs(9, 1), recs(2, 5), recs(2, 5), recs(1, 1))
	cut(t, l, 1, api.Sum, recs(9, 3), recs(9, 1), recs(2, 5), recs(2, 5), recs(1, 1))
	cut(t, l, 1, api.Min, recs(9, 3), recs(9, 1), recs(2, 5), recs(2, 5), recs(1, 1))
	cut(t, l, 2, api.Keep, recs(9, 1, 9, 3), recs(2, 5, 2, 5), recs(1, 1))
	cut(t, l, 2, api.Sum, recs(9, 4), recs(2, 10), recs(1, 1))
	cut(t, l, 2, api.Min, recs(9, 1), recs(2, 5), recs(1, 1))
	cut(t, l, 3, api.Keep, recs(2, 5, 9, 1, 9, 3), recs(1, 1, 2, 5))
	cut(t, l, 3, api.Sum, recs(2, 5, 9, 4), recs(1, 1, 2, 5))
	cut(t, l, 3, api.Min, recs(2, 5, 9, 1), recs(1, 1, 2, 5))
	cut(t, l, 4, api.Sum, recs(2, 10, 9, 4), recs(1, 1))
	for _, budget := range []int{5, 6, 7, 1 << 31, 1 << 32, math.MaxInt - 1, math.MaxInt} {
		cut(t, l, budget, api.Keep, recs(1, 1, 2, 5, 2, 5, 9, 1, 9, 3))
		cut(t, l, budget, api.Sum, recs(1, 1, 2, 10, 9, 4))
		cut(t, l, budget, api.Min, recs(1, 1, 2, 5, 9, 1))
	}
}

// TestCutNone: no records are no pieces, not one without records.
func TestCutNone(t *testing.T) {
	for _, how := range hows() {
		for _, budget := range []int{1, 2, math.MaxInt} {
			cut(t, nil, budget, how)
			cut(t, []api.Rec{}, budget, how)
		}
	}
}

// TestCutSizes: by Keep there are as many pieces as n by budget, rounded up, and all but the last have budget records.
func TestCutSizes(t *testing.T) {
	for n := range 40 {
		l := make([]api.Rec, n)
		for i := range l {
			l[i] = api.Rec{Key: uint64(n - i)}
		}
		for budget := 1; budget < 45; budget++ {
			pieces, err := runs.Cut(l, budget, api.Keep)
			if want := (n + budget - 1) / budget; err != api.OK || len(pieces) != want {
				t.Fatalf("Cut of %d by %d has %d pieces, %v, want %d", n, budget, len(pieces), err, want)
			}
			for i, piece := range pieces {
				if want := min(budget, n-i*budget); len(piece) != want {
					t.Fatalf("Cut of %d by %d: piece %d has %d records, want %d", n, budget, i, len(piece), want)
				}
			}
		}
	}
}

// TestMerge: rows need not be sorted, nor be any.
func TestMerge(t *testing.T) {
	for _, v := range []struct {
		l                [][]api.Rec
		keep, sum, least []api.Rec
	}{
		{nil, nil, nil, nil},
		{[][]api.Rec{}, nil, nil, nil},
		{[][]api.Rec{nil}, nil, nil, nil},
		{[][]api.Rec{nil, {}, nil}, nil, nil, nil},
		{[][]api.Rec{recs(0, 0)}, recs(0, 0), recs(0, 0), recs(0, 0)},
		{[][]api.Rec{recs(2, 5, 1, 1, 2, 3)}, recs(1, 1, 2, 3, 2, 5), recs(1, 1, 2, 8), recs(1, 1, 2, 3)},
		{[][]api.Rec{nil, recs(2, 5), {}, recs(1, 1, 2, 3), nil}, recs(1, 1, 2, 3, 2, 5), recs(1, 1, 2, 8), recs(1, 1, 2, 3)},
		// Runs that take turns, and one that is done ahead of the others.
		{
			[][]api.Rec{recs(1, 1, 4, 4, 7, 7), recs(2, 2), recs(3, 3, 5, 5, 6, 6)},
			recs(1, 1, 2, 2, 3, 3, 4, 4, 5, 5, 6, 6, 7, 7),
			recs(1, 1, 2, 2, 3, 3, 4, 4, 5, 5, 6, 6, 7, 7),
			recs(1, 1, 2, 2, 3, 3, 4, 4, 5, 5, 6, 6, 7, 7),
		},
		// Rows that fall, and whose ends would be the first.
		{
			[][]api.Rec{recs(9, 1, 5, 1, 1, 1), recs(8, 1, 5, 0, 0, 1)},
			recs(0, 1, 1, 1, 5, 0, 5, 1, 8, 1, 9, 1), recs(0, 1, 1, 1, 5, 1, 8, 1, 9, 1), recs(0, 1, 1, 1, 5, 0, 8, 1, 9, 1),
		},
		// Many alike, in one row and in several.
		{
			[][]api.Rec{recs(3, 3, 3, 3), recs(3, 3), recs(3, 3, 3, 3), recs(3, 3)},
			recs(3, 3, 3, 3, 3, 3, 3, 3, 3, 3, 3, 3), recs(3, 18), recs(3, 3),
		},
		{
			[][]api.Rec{recs(7, most), recs(7, most, most, 1), recs(7, 2, most, most)},
			recs(7, 2, 7, most, 7, most, most, 1, most, most), recs(7, most, most, most), recs(7, 2, most, 1),
		},
	} {
		for _, back := range []bool{false, true} {
			l := slices.Clone(v.l)
			if back {
				slices.Reverse(l)
			}
			merge(t, l, api.Keep, v.keep)
			merge(t, l, api.Sum, v.sum)
			merge(t, l, api.Min, v.least)
		}
	}
}

// TestMany: many records, many rows and many alike are done with at once.
func TestMany(t *testing.T) {
	const n = 1 << 17
	var l, alike []api.Rec
	var rows [][]api.Rec
	for i := range uint64(n) {
		l = append(l, api.Rec{Key: i, Val: i})
		alike = append(alike, api.Rec{Key: 5, Val: 3})
		rows = append(rows, recs(n-1-i, n-1-i))
	}
	back := slices.Clone(l)
	slices.Reverse(back)
	for _, how := range hows() {
		for _, row := range [][]api.Rec{l, back} {
			if got, err := runs.Sorted(row, how); err != api.OK || !slices.Equal(got, l) {
				t.Errorf("%d records are not sorted by %d: %v", n, how, err)
			}
		}
		if got, err := runs.Merge(rows, how); err != api.OK || !slices.Equal(got, l) {
			t.Errorf("%d rows are not merged by %d: %v", n, how, err)
		}
		if got, err := runs.Merge([][]api.Rec{back, nil}, how); err != api.OK || !slices.Equal(got, l) {
			t.Errorf("a row of %d is not merged by %d: %v", n, how, err)
		}
	}
	sorted(t, alike, api.Sum, recs(5, 3*n))
	sorted(t, alike, api.Min, recs(5, 3))
	if got, err := runs.Sorted(alike, api.Keep); err != api.OK || !slices.Equal(got, alike) {
		t.Errorf("%d records that are alike are not kept: %v", n, err)
	}
	if got, err := runs.Merge([][]api.Rec{alike, alike}, api.Sum); err != api.OK || !slices.Equal(got, recs(5, 6*n)) {
		t.Errorf("%d records that are alike are not merged: %v, %v", 2*n, got, err)
	}
}
