package extsort_test

import (
	"cmp"
	"maps"
	"math"
	"math/big"
	"math/bits"
	"slices"
	"testing"

	"cartage/api"
	"cartage/disk"
	"cartage/extsort"
	"cartage/record"
)

// dice tells numbers; the same ones each time the test is run.
type dice uint64

func (d *dice) roll(n int) int {
	*d = *d*6364136223846793005 + 1442695040888963407
	return int(uint64(*d>>33) % uint64(n))
}

// recs tells n records of so many keys, in any order, some of them alike, and some of the greatest numbers.
func (d *dice) recs(n, keys int) []api.Rec {
	l := make([]api.Rec, n)
	for i := range l {
		l[i] = api.Rec{Key: uint64(d.roll(keys)), Val: uint64(d.roll(9))}
		if d.roll(20) == 0 {
			l[i].Val = math.MaxUint64 - l[i].Val
		}
		if d.roll(20) == 0 {
			l[i].Key = math.MaxUint64 - l[i].Key
		}
	}
	return l
}

// some tells n records, of which about each third has a key of its own.
func some(n int) []api.Rec {
	d := dice(n)
	return d.recs(n, n/3+1)
}

// hows tells the three.
func hows() []int { return []int{api.Keep, api.Sum, api.Min} }

// model tells the records that out has: sorted, and then one of each key, if they are combined.
func model(l []api.Rec, how int) []api.Rec {
	l = slices.SortedFunc(slices.Values(l), func(a, b api.Rec) int {
		return cmp.Or(cmp.Compare(a.Key, b.Key), cmp.Compare(a.Val, b.Val))
	})
	if how == api.Keep {
		return l
	}
	sums := map[uint64]uint64{}
	for _, r := range l {
		sum, carry := bits.Add64(sums[r.Key], r.Val, 0)
		sums[r.Key] = sum | -carry
	}
	l = slices.CompactFunc(l, func(a, b api.Rec) bool { return a.Key == b.Key })
	for i := range l {
		if how == api.Sum {
			l[i].Val = sums[l[i].Key]
		}
	}
	return l
}

// must asks for OK.
func must(t *testing.T, errs ...api.Errno) {
	t.Helper()
	for i, err := range errs {
		if err != api.OK {
			t.Fatalf("call %d: %v", i, err)
		}
	}
}

// withIn tells a disk of this room with the records, in the file in, and with another file.
func withIn(t *testing.T, room int, l []api.Rec) *disk.Disk {
	t.Helper()
	d := disk.New(room)
	must(t, record.Write(d, "in", l), d.Create("other"), d.Append("other", []byte("o")), d.Sync("other"))
	return d
}

// files tells all files of a disk that is up, as they are now.
func files(t *testing.T, d *disk.Disk) map[string]string {
	t.Helper()
	names, err := d.List()
	must(t, err)
	all := map[string]string{}
	for _, name := range names {
		size, err := d.Size(name)
		must(t, err)
		b, err := d.ReadAt(name, 0, size)
		must(t, err)
		all[name] = string(b)
	}
	return all
}

// has asks for these files, and no others.
func has(t *testing.T, d *disk.Disk, want map[string]string) {
	t.Helper()
	if got := files(t, d); !maps.Equal(got, want) {
		t.Fatalf("files %.60q, want %.60q", got, want)
	}
}

// reads asks for the records of a file.
func reads(t *testing.T, d *disk.Disk, name string, want []api.Rec) {
	t.Helper()
	if got, err := record.Read(d, name); err != api.OK || !slices.Equal(got, want) {
		t.Fatalf("%s has %d records, %v, want %d", name, len(got), err, len(want))
	}
}

// call is a call of Sort, but for its disk.
type call struct {
	in, out, temp    string
	budget, fan, how int
}

// plain tells one by the names that most tests have.
func plain(budget, fan, how int) call { return call{"in", "out", "t", budget, fan, how} }

func (c call) sort(d *disk.Disk) (int, api.Errno) {
	return extsort.Sort(d, c.in, c.out, c.temp, c.budget, c.fan, c.how)
}

// sorts asks Sort to do what the chapter says of these records, with room enough.
func (c call) sorts(t *testing.T, d *disk.Disk, l []api.Rec) {
	t.Helper()
	want := files(t, d)
	passes, err := c.sort(d)
	if err != api.OK || passes != extsort.Passes(len(l), c.budget, c.fan) {
		t.Fatalf("%d records, %+v: %d, %v", len(l), c, passes, err)
	}
	reads(t, d, c.out, model(l, c.how))
	got := files(t, d)
	want[c.out] = got[c.out]
	if !maps.Equal(got, want) {
		t.Fatalf("%d records, %+v: files %.60q, want %.60q", len(l), c, got, want)
	}
	d.Crash(nil)
	d.Restart()
	has(t, d, want)
}

// refused asks Sort for an error, and all files to be as they were.
func (c call) refused(t *testing.T, d *disk.Disk, want api.Errno) {
	t.Helper()
	was := files(t, d)
	if passes, err := c.sort(d); passes != 0 || err != want {
		t.Fatalf("%+v: %d, %v, want %v", c, passes, err, want)
	}
	has(t, d, was)
}

func TestPasses(t *testing.T) {
	const most, least = math.MaxInt, math.MinInt
	for _, v := range []struct{ n, budget, fan, want int }{
		{10, 2, 2, 3}, // the chapter's example
		{0, 1, 2, 0}, {-1, 1, 2, 0}, {least, 1, 2, 0}, {0, 0, 0, 0},
		{9, 0, 2, 0}, {9, -1, 2, 0}, {9, least, 2, 0},
		{9, 1, 1, 0}, {9, 1, 0, 0}, {9, 1, -1, 0}, {9, 1, least, 0},
		{1, 1, 2, 0}, {2, 1, 2, 1}, {3, 1, 2, 2}, {4, 1, 2, 2}, {5, 1, 2, 3},
		{5, 5, 2, 0}, {6, 5, 2, 1}, {10, 5, 2, 1}, {11, 5, 2, 2}, {4, 5, 2, 0},
		{10, 1, 10, 1}, {11, 1, 10, 2}, {9, 1, 10, 1}, {100, 1, 10, 2}, {101, 1, 10, 3},
		{1 << 20, 1, 2, 20}, {1<<20 + 1, 1, 2, 21}, {1 << 20, 1 << 10, 1 << 5, 2},
		{1000000, 1, 10, 6}, {1000001, 1, 10, 7}, {1000000, 1000000, 2, 0}, {1000000, 999999, 2, 1},
		{most, 1, 2, 63}, {most, 2, 2, 62}, {most, 1, most, 1}, {most, most, 2, 0}, {most, most - 1, most, 1}, {1, most, most, 0},
	} {
		if got := extsort.Passes(v.n, v.budget, v.fan); got != v.want {
			t.Errorf("Passes(%d, %d, %d) = %d, want %d", v.n, v.budget, v.fan, got, v.want)
		}
	}
}

// TestPassesByPowers: so many passes are enough for budget times fan to the power of them records, and no more.
func TestPassesByPowers(t *testing.T) {
	asks := func(n, budget, fan int) {
		want, reach, by := 0, big.NewInt(int64(budget)), big.NewInt(int64(fan))
		for reach.Cmp(big.NewInt(int64(n))) < 0 {
			reach.Mul(reach, by)
			want++
		}
		if got := extsort.Passes(n, budget, fan); got != want {
			t.Fatalf("Passes(%d, %d, %d) = %d, want %d", n, budget, fan, got, want)
		}
	}
	for n := 1; n <= 130; n++ {
		for budget := 1; budget <= 14; budget++ {
			for fan := 2; fan <= 9; fan++ {
				asks(n, budget, fan)
			}
		}
	}
	x := dice(1)
	for range 20000 {
		asks(1+x.roll(1000000), 1+x.roll(1+x.roll(1+x.roll(1000000))), 2+x.roll(1+x.roll(1+x.roll(1000))))
	}
}

// TestSort: no records, one, some, and about a block of them, or two; budgets and fans from the least on.
func TestSort(t *testing.T) {
	for _, n := range []int{0, 1, 2, 3, 4, 9, 49, 50, 51, 101} {
		l := some(n)
		for _, budget := range from(1, 1, 2, 3, 7, 50, n-1, n, n+1, math.MaxInt) {
			rows := (n-1)/budget + 1
			for _, fan := range from(2, 2, 3, 5, rows-1, rows, rows+1, math.MaxInt) {
				for _, how := range hows() {
					plain(budget, fan, how).sorts(t, withIn(t, 10000, l), l)
				}
			}
		}
	}
}

// from tells those of the numbers that are not below the least one, each once.
func from(least int, l ...int) []int {
	slices.Sort(l)
	return slices.DeleteFunc(slices.Compact(l), func(n int) bool { return n < least })
}

// TestShapes: rows that are sorted, or the other way round, of one record only, of one key, or of sums that are too great.
func TestShapes(t *testing.T) {
	const most = math.MaxUint64
	shapes := map[string]func(i uint64) api.Rec{
		"rising":     func(i uint64) api.Rec { return api.Rec{Key: i, Val: i * i} },
		"falling":    func(i uint64) api.Rec { return api.Rec{Key: most - i, Val: i} },
		"alike":      func(i uint64) api.Rec { return api.Rec{Key: 7, Val: 7} },
		"one key":    func(i uint64) api.Rec { return api.Rec{Key: most, Val: i * 7 % 11} },
		"two keys":   func(i uint64) api.Rec { return api.Rec{Key: i % 2, Val: most - i} },
		"great":      func(i uint64) api.Rec { return api.Rec{Key: i / 3 % 5, Val: most / 4} },
		"by turns":   func(i uint64) api.Rec { return api.Rec{Key: i % 40 << 58, Val: i / 40} },
		"by values":  func(i uint64) api.Rec { return api.Rec{Key: 1, Val: most - i} },
		"of no bits": func(i uint64) api.Rec { return api.Rec{} },
	}
	for _, shape := range shapes {
		var l []api.Rec
		for i := range uint64(120) {
			l = append(l, shape(i))
		}
		for _, budget := range []int{1, 7, 50, 119, 120} {
			for _, fan := range []int{2, 3, 200} {
				for _, how := range hows() {
					plain(budget, fan, how).sorts(t, withIn(t, 10000, l), l)
				}
			}
		}
	}
}

// TestRolled: numbers of records, keys, budgets and fans that are rolled.
func TestRolled(t *testing.T) {
	x := dice(5)
	for range 400 {
		l := x.recs(x.roll(400), 1+x.roll(300))
		c := plain(1+x.roll(1+x.roll(200)), 2+x.roll(1+x.roll(40)), x.roll(3))
		c.sorts(t, withIn(t, 10000, l), l)
	}
}

// TestLong: many records by little, and by much.
func TestLong(t *testing.T) {
	for _, v := range []struct{ n, budget, fan int }{{20000, 1, 2}, {60000, 100, 3}, {100000, 1000, 1000}, {100000, 100000, 2}} {
		x := dice(v.n)
		l := x.recs(v.n, v.n)
		for _, how := range hows() {
			plain(v.budget, v.fan, how).sorts(t, withIn(t, 8*v.n, l), l)
		}
	}
}

// TestBytes: out has the bytes that Write (9) makes of its records.
func TestBytes(t *testing.T) {
	l := some(170)
	for _, how := range hows() {
		d, e := withIn(t, 10000, l), disk.New(10000)
		_, err := plain(20, 3, how).sort(d)
		must(t, err, record.Write(e, "out", model(l, how)))
		if got, want := files(t, d)["out"], files(t, e)["out"]; got != want {
			t.Errorf("how %d: out has %d bytes, want %d", how, len(got), len(want))
		}
	}
}
