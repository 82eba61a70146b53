package part_test

import (
	"math"
	"slices"
	"testing"

	"cartage/api"
	"cartage/part"
)

// The chapter's numbers are written out, so that a limit that is another one is seen.
const (
	mostVertices = 1048576
	mostShards   = 4096
)

// counted tells the bounds without a product: n is added again and again, and what makes up a whole number of shards
// is carried.
func counted(n, shards int) []int {
	bounds := []int{0}
	whole, rest := 0, 0
	for range shards {
		whole += n / shards
		rest += n % shards
		if rest >= shards {
			rest -= shards
			whole++
		}
		bounds = append(bounds, whole)
	}
	return bounds
}

func mustBounds(t *testing.T, n, shards int) []int {
	t.Helper()
	bounds, err := part.Bounds(n, shards)
	if err != api.OK {
		t.Fatalf("Bounds(%d, %d): %v", n, shards, err)
	}
	return bounds
}

func mustOf(t *testing.T, n, shards, v int) int {
	t.Helper()
	i, err := part.Of(n, shards, v)
	if err != api.OK {
		t.Fatalf("Of(%d, %d, %d): %v", n, shards, v, err)
	}
	return i
}

func TestBoundsWrittenOut(t *testing.T) {
	for _, c := range []struct {
		n, shards int
		want      []int
	}{
		{5, 2, []int{0, 2, 5}}, // the chapter's example
		{0, 1, []int{0, 0}},
		{0, 3, []int{0, 0, 0, 0}},
		{1, 1, []int{0, 1}},
		{1, 3, []int{0, 0, 0, 1}},
		{2, 4, []int{0, 0, 1, 1, 2}},
		{3, 2, []int{0, 1, 3}},
		{3, 5, []int{0, 0, 1, 1, 2, 3}},
		{4, 4, []int{0, 1, 2, 3, 4}},
		{7, 1, []int{0, 7}},
		{7, 3, []int{0, 2, 4, 7}},
		{8, 3, []int{0, 2, 5, 8}},
		{10, 4, []int{0, 2, 5, 7, 10}},
		{mostVertices, 1, []int{0, 1048576}},
		{mostVertices, 2, []int{0, 524288, 1048576}},
		{mostVertices, 3, []int{0, 349525, 699050, 1048576}},
		{mostVertices - 1, 4, []int{0, 262143, 524287, 786431, 1048575}},
	} {
		if got := mustBounds(t, c.n, c.shards); !slices.Equal(got, c.want) {
			t.Errorf("Bounds(%d, %d) is %v, not %v", c.n, c.shards, got, c.want)
		}
	}
}

func TestOfWrittenOut(t *testing.T) {
	for _, c := range []struct{ n, shards, v, want int }{
		{5, 2, 0, 0},
		{5, 2, 1, 0},
		{5, 2, 2, 1},
		{5, 2, 4, 1},
		{1, 3, 0, 2},
		{2, 4, 0, 1},
		{2, 4, 1, 3},
		{7, 1, 6, 0},
		{1, mostShards, 0, 4095},
		{mostVertices, 1, 1048575, 0},
		{mostVertices, 3, 349524, 0},
		{mostVertices, 3, 349525, 1},
		{mostVertices, 3, 699049, 1},
		{mostVertices, 3, 699050, 2},
		{mostVertices, mostShards, 0, 0},
		{mostVertices, mostShards, 255, 0},
		{mostVertices, mostShards, 256, 1},
		{mostVertices, mostShards, 1048319, 4094},
		{mostVertices, mostShards, 1048320, 4095},
		{mostVertices, mostShards, 1048575, 4095},
	} {
		if got := mustOf(t, c.n, c.shards, c.v); got != c.want {
			t.Errorf("Of(%d, %d, %d) is %d, not %d", c.n, c.shards, c.v, got, c.want)
		}
	}
}

// having tells the intervals that have v.
func having(bounds []int, v int) []int {
	var found []int
	for i := range len(bounds) - 1 {
		if bounds[i] <= v && v < bounds[i+1] {
			found = append(found, i)
		}
	}
	return found
}

func TestAllSmall(t *testing.T) {
	for n := range 41 {
		for shards := 1; shards <= 50; shards++ {
			bounds := mustBounds(t, n, shards)
			if want := counted(n, shards); !slices.Equal(bounds, want) {
				t.Fatalf("Bounds(%d, %d) is %v, not %v", n, shards, bounds, want)
			}
			for v := range n {
				if got, found := mustOf(t, n, shards, v), having(bounds, v); len(found) != 1 || found[0] != got {
					t.Fatalf("Of(%d, %d, %d) is %d, but these have it: %v", n, shards, v, got, found)
				}
			}
		}
	}
}

func largeOnes() (ns, shards []int) {
	ns = []int{255, 256, 257, 4095, 4096, 4097, 10007, 65535, 65536, 524287, 1000003, mostVertices - 1, mostVertices}
	shards = []int{1, 2, 3, 7, 10, 16, 255, 256, 257, 1000, 2047, 2048, 2049, 4093, mostShards - 1, mostShards}
	return ns, shards
}

func TestLarge(t *testing.T) {
	ns, all := largeOnes()
	for _, n := range ns {
		for _, shards := range all {
			bounds := mustBounds(t, n, shards)
			if !slices.Equal(bounds, counted(n, shards)) {
				t.Fatalf("Bounds(%d, %d) is not as counted", n, shards)
			}
			checkEnds(t, n, shards, bounds)
		}
	}
}

// checkEnds asks for the first and the last vertex of each interval.
func checkEnds(t *testing.T, n, shards int, bounds []int) {
	t.Helper()
	if len(bounds) != shards+1 || bounds[0] != 0 || bounds[shards] != n || !slices.IsSorted(bounds) {
		t.Fatalf("Bounds(%d, %d) has %d numbers, from %d to %d", n, shards, len(bounds), bounds[0], bounds[shards])
	}
	for i := range shards {
		if bounds[i] == bounds[i+1] {
			continue // an interval without vertices
		}
		for _, v := range []int{bounds[i], bounds[i+1] - 1} {
			if got := mustOf(t, n, shards, v); got != i {
				t.Fatalf("Of(%d, %d, %d) is %d, not %d", n, shards, v, got, i)
			}
		}
	}
}

// TestEachVertexOnce goes through all vertices there can be: the intervals follow each other, each has as many as its
// bounds tell, and none is left out.
func TestEachVertexOnce(t *testing.T) {
	for _, shards := range []int{1, 3, 1000, mostShards - 1, mostShards} {
		bounds := mustBounds(t, mostVertices, shards)
		counts := make([]int, shards)
		last := 0
		for v := range mostVertices {
			i := mustOf(t, mostVertices, shards, v)
			if i < last || i >= shards {
				t.Fatalf("%d shards: vertex %d is in %d, behind one in %d", shards, v, i, last)
			}
			counts[i]++
			last = i
		}
		for i, count := range counts {
			if count != bounds[i+1]-bounds[i] {
				t.Fatalf("%d shards: %d vertices in interval %d, from %d to %d", shards, count, i, bounds[i], bounds[i+1])
			}
		}
	}
}

func TestWrongPairs(t *testing.T) {
	for _, n := range []int{math.MinInt, math.MinInt + 1, math.MinInt32, -mostVertices, -1, 0, 1, 5, mostVertices, mostVertices + 1, math.MaxInt32, math.MaxInt - 1, math.MaxInt} {
		for _, shards := range []int{math.MinInt, math.MinInt + 1, math.MinInt32, -mostShards, -1, 0, 1, 2, mostShards, mostShards + 1, math.MaxInt32, math.MaxInt - 1, math.MaxInt} {
			want := api.OK
			if n < 0 || n > mostVertices || shards < 1 || shards > mostShards {
				want = api.ErrArg
			}
			bounds, err := part.Bounds(n, shards)
			if err != want || want != api.OK && len(bounds) != 0 {
				t.Errorf("Bounds(%d, %d): %v and %d numbers, not %v", n, shards, err, len(bounds), want)
			}
			if want != api.OK {
				checkRefused(t, n, shards, 0)
				checkRefused(t, n, shards, n-1)
			} else if n > 0 {
				mustOf(t, n, shards, 0)
				mustOf(t, n, shards, n-1)
			}
		}
	}
}

func checkRefused(t *testing.T, n, shards, v int) {
	t.Helper()
	if i, err := part.Of(n, shards, v); err != api.ErrArg || i != 0 {
		t.Errorf("Of(%d, %d, %d): %d, %v", n, shards, v, i, err)
	}
}

func TestWrongVertices(t *testing.T) {
	for _, n := range []int{0, 1, 2, 5, 4096, mostVertices - 1, mostVertices} {
		for _, shards := range []int{1, 2, 3, mostShards} {
			for _, v := range []int{math.MinInt, math.MinInt32, -n, -1 - n, -1, n, n + 1, 2*n + 1, math.MaxInt32, math.MaxInt - 1, math.MaxInt} {
				if v < 0 || v >= n {
					checkRefused(t, n, shards, v)
				}
			}
		}
	}
}

// TestOwn writes over what was answered: what is answered behind it stays as it was (R1, R4).
func TestOwn(t *testing.T) {
	want := []int{0, 2, 4, 7}
	first := mustBounds(t, 7, 3)
	second := mustBounds(t, 7, 3)
	first = first[:cap(first)]
	for i := range first {
		first[i] = -1
	}
	if third := mustBounds(t, 7, 3); !slices.Equal(second, want) || !slices.Equal(third, want) {
		t.Errorf("Bounds(7, 3) is %v, then %v, not %v", second, third, want)
	}
	if got := mustOf(t, 7, 3, 3); got != 1 {
		t.Errorf("Of(7, 3, 3) is %d, not 1", got)
	}
}

// TestInAnyOrder makes the same calls, refused ones among them, forth and back: no call hangs on those ahead (R4).
func TestInAnyOrder(t *testing.T) {
	type call struct{ n, shards, v int }
	type answer struct {
		i      int
		err    api.Errno
		size   int
		refuse api.Errno
	}
	var calls []call
	for n := -1; n < 9; n++ {
		for shards := range 6 {
			for v := -1; v < 10; v++ {
				calls = append(calls, call{n, shards, v})
			}
		}
	}
	ask := func(c call) answer {
		i, err := part.Of(c.n, c.shards, c.v)
		bounds, refuse := part.Bounds(c.n, c.shards)
		return answer{i, err, len(bounds), refuse}
	}
	var forth []answer
	for _, c := range calls {
		forth = append(forth, ask(c))
	}
	for i, c := range slices.Backward(calls) {
		if again := ask(c); again != forth[i] {
			t.Errorf("%v: %v, then %v", c, forth[i], again)
		}
	}
}
