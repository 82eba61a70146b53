package lru_test

import (
	"math"
	"slices"
	"testing"

	"cartage/api"
	"cartage/lru"
)

// nested has an interface within, that may hold what can't be held against another.
type nested struct {
	n int
	x any
}

// oddKeys are the same as none: == between one and itself is false, or panics.
func oddKeys() map[string]any {
	nan := math.NaN()
	return map[string]any{
		"a slice":             []int{1},
		"nil as a slice":      []int(nil),
		"a map":               map[int]int{},
		"a function":          func() {},
		"an array of a slice": [1][]int{{1}},
		"a struct":            struct{ l []int }{},
		"one within":          nested{1, []int{1}},
		"one within twice":    nested{1, nested{2, func() {}}},
		"an array of any":     [2]any{1, []int{}},
		"no number":           nan,
		"no small number":     float32(nan),
		"no complex number":   complex(0, nan),
		"no number within":    nested{1, nan},
		"both":                [2]any{nan, []int{}},
		"both, turned":        [2]any{[]int{}, nan},
	}
}

// neverThere asks for what a key answers that is the same as none.
func neverThere[K comparable](t *testing.T, c *lru.Cache[K], key K) {
	t.Helper()
	answers(t, []api.Errno{c.Pin(key), c.Unpin(key), c.Drop(key)}, api.ErrNone, api.ErrNone, api.ErrNone)
	if c.Has(key) {
		t.Fatal("it is there")
	}
}

// TestOddKeys is R2: no call panics, and no more keys are held than there are frames.
func TestOddKeys(t *testing.T) {
	for name, odd := range oddKeys() {
		t.Run(name, func(t *testing.T) {
			c := lru.New[any](2)
			neverThere(t, c, odd)
			for i := range 5 { // each is a new one
				_, is, err := c.Use(odd)
				if is != (i >= 2) || err != api.OK || len(c.Keys()) != min(i+1, 2) {
					t.Fatalf("use %d: %v, %v, %d keys", i, is, err, len(c.Keys()))
				}
				neverThere(t, c, odd)
			}
			for _, key := range []string{"a", "b"} { // they go as others do
				if gone, is, err := c.Use(key); gone == nil || !is || err != api.OK {
					t.Fatalf("Use(%s) = %v, %v, %v", key, gone, is, err)
				}
			}
			holds[any](t, c, "a", "b")
			answers(t, []api.Errno{c.Pin("a"), c.Pin("b")}, api.OK, api.OK)
			if gone, is, err := c.Use(odd); gone != nil || is || err != api.ErrFull {
				t.Fatalf("all are pinned: %v, %v, %v", gone, is, err)
			}
			answers(t, []api.Errno{c.Unpin("a")}, api.OK)
			if gone, is, err := c.Use(odd); gone != "a" || !is || err != api.OK {
				t.Fatalf("a was to go: %v, %v, %v", gone, is, err)
			}
			neverThere(t, c, odd)
			if keys := c.Keys(); len(keys) != 2 || keys[0] != "b" {
				t.Fatalf("%v", keys)
			}
		})
	}
}

// TestNoNumbers: floats that are no number take frames, and give them back.
func TestNoNumbers(t *testing.T) {
	nan := math.NaN()
	c := lru.New[float64](3)
	fits(t, c, 1, math.Inf(1))
	if gone, is, err := c.Use(nan); gone != 0 || is || err != api.OK {
		t.Errorf("%v, %v, %v", gone, is, err)
	}
	neverThere(t, c, nan)
	if keys := c.Keys(); len(keys) != 3 || !slices.Equal(keys[:2], []float64{1, math.Inf(1)}) || !math.IsNaN(keys[2]) {
		t.Errorf("%v", keys)
	}
	fits(t, c, 1, math.Inf(1))
	if gone, is, err := c.Use(2); !math.IsNaN(gone) || !is || err != api.OK {
		t.Errorf("%v, %v, %v", gone, is, err)
	}
	holds(t, c, 1, math.Inf(1), 2)
	for i := range 1000 {
		c.Use(nan)
		if n := len(c.Keys()); n != 3 {
			t.Fatalf("%d uses: %d keys", i+1, n)
		}
	}
	for range 3 {
		c.Use(3)
		c.Use(4)
		c.Use(5)
	}
	holds(t, c, 3, 4, 5)
	zero := lru.New[float64](1)
	fits(t, zero, 0, math.Copysign(0, -1)) // both noughts are the same
	holds(t, zero, 0)
}
