package runs_test

import (
	"math/big"
	"slices"
	"testing"

	"cartage/api"
	"cartage/runs"
)

// dice rolls numbers that are the same on each run.
type dice uint64

func (d *dice) roll(n int) int {
	*d = *d*6364136223846793005 + 1442695040888963407
	return int(*d >> 33 % dice(n))
}

// row tells up to n records of few keys and values, or of the greatest ones, too.
func (d *dice) row(n int) []api.Rec {
	keys, vals := 1+d.roll(12), 1+d.roll(5)
	great := d.roll(3) == 0
	number := func(kinds int) uint64 {
		x := uint64(d.roll(kinds))
		if great && d.roll(2) == 0 {
			return most - x
		}
		return x
	}
	l := make([]api.Rec, d.roll(n+1))
	for i := range l {
		l[i] = api.Rec{Key: number(keys), Val: number(vals)}
	}
	return l
}

// model is Sorted in the chapter's words: key by key, the lowest first, all values of each.
func model(l []api.Rec, how int) []api.Rec {
	vals := map[uint64][]uint64{}
	var keys []uint64
	for _, r := range l {
		if vals[r.Key] == nil {
			keys = append(keys, r.Key)
		}
		vals[r.Key] = append(vals[r.Key], r.Val)
	}
	slices.Sort(keys)
	var list []api.Rec
	for _, key := range keys {
		slices.Sort(vals[key])
		for _, val := range combined(vals[key], how) {
			list = append(list, api.Rec{Key: key, Val: val})
		}
	}
	return list
}

// combined tells rising values of one key, by Keep all of them.
func combined(vals []uint64, how int) []uint64 {
	switch how {
	case api.Keep:
		return vals
	case api.Min:
		return vals[:1]
	}
	sum := new(big.Int)
	for _, val := range vals {
		sum.Add(sum, new(big.Int).SetUint64(val))
	}
	if !sum.IsUint64() {
		return []uint64{most}
	}
	return []uint64{sum.Uint64()}
}

// pieces tells budget records each.
func pieces(l []api.Rec, budget int) (rows [][]api.Rec) {
	for len(l) > budget {
		rows = append(rows, l[:budget])
		l = l[budget:]
	}
	if len(l) > 0 {
		rows = append(rows, l)
	}
	return rows
}

// same asks of a row for all that the chapter says, by that how and budget.
func same(t *testing.T, l []api.Rec, budget, how int) {
	t.Helper()
	want := model(l, how)
	sorted(t, l, how, want)
	var parts [][]api.Rec
	for _, piece := range pieces(l, budget) {
		parts = append(parts, model(piece, how))
	}
	cut(t, l, budget, how, parts...)
	got, _ := runs.Cut(l, budget, how)
	merge(t, got, how, want)
	merge(t, pieces(l, budget), how, want)
	if t.Failed() {
		t.FailNow()
	}
}

// TestShortRows: all rows of up to four records of two keys and three values, one of them the greatest, by all budgets.
func TestShortRows(t *testing.T) {
	kinds := recs(0, 0, 0, 1, 0, most, 1, 0, 1, 1, 1, most)
	var try func(l []api.Rec)
	try = func(l []api.Rec) {
		for _, how := range hows() {
			for budget := 1; budget <= len(l)+1; budget++ {
				same(t, l, budget, how)
			}
		}
		if len(l) == 4 {
			return
		}
		for _, r := range kinds {
			try(append(slices.Clone(l), r))
		}
	}
	try(nil)
}

// TestModel: longer rows, of few keys and of many.
func TestModel(t *testing.T) {
	d := dice(8)
	for range 3000 {
		l := d.row(60)
		same(t, l, 1+d.roll(70), hows()[d.roll(3)])
	}
}

// TestMergeModel: rows that were not cut out of one, sorted or not, short and long.
func TestMergeModel(t *testing.T) {
	d := dice(88)
	for range 2000 {
		how := hows()[d.roll(3)]
		var rows [][]api.Rec
		var all []api.Rec
		for range d.roll(12) {
			row := d.row(1 + d.roll(25))
			if d.roll(2) == 0 {
				row = model(row, hows()[d.roll(3)])
			}
			rows = append(rows, row)
			all = append(all, row...)
		}
		merge(t, rows, how, model(all, how))
		if t.Failed() {
			t.FailNow()
		}
	}
}

// TestMergedRuns: what is cut and merged is what Sorted tells, by whatever budget, and also if it is merged by and by.
func TestMergedRuns(t *testing.T) {
	d := dice(888)
	for range 100 {
		l := d.row(100)
		for _, how := range hows() {
			want, _ := runs.Sorted(l, how)
			for _, budget := range []int{1, 2, 3, 7, max(len(l)-1, 1), max(len(l), 1), len(l) + 1, 1000} {
				rows, _ := runs.Cut(l, budget, how)
				merge(t, rows, how, want)
				for len(rows) > 1 {
					two, _ := runs.Merge(rows[:2], how)
					rows = append(rows[2:], two)
				}
				merge(t, rows, how, want)
			}
		}
	}
}
