package lru_test

import (
	"math"
	"slices"
	"strings"
	"testing"

	"cartage/api"
	"cartage/lru"
)

// fits uses keys for which none has to go.
func fits[K comparable](t *testing.T, c *lru.Cache[K], keys ...K) {
	t.Helper()
	var zero K
	for _, key := range keys {
		if gone, is, err := c.Use(key); gone != zero || is || err != api.OK {
			t.Fatalf("Use(%v) = %v, %v, %v, want none to go", key, gone, is, err)
		}
	}
}

// goes uses a key for which another one has to go.
func goes[K comparable](t *testing.T, c *lru.Cache[K], key, want K) {
	t.Helper()
	if gone, is, err := c.Use(key); gone != want || !is || err != api.OK {
		t.Fatalf("Use(%v) = %v, %v, %v, want %v to go", key, gone, is, err, want)
	}
}

// full uses a key for which none can go.
func full[K comparable](t *testing.T, c *lru.Cache[K], key K) {
	t.Helper()
	var zero K
	if gone, is, err := c.Use(key); gone != zero || is || err != api.ErrFull {
		t.Fatalf("Use(%v) = %v, %v, %v, want %v", key, gone, is, err, api.ErrFull)
	}
}

// holds asks for just these keys, in this order.
func holds[K comparable](t *testing.T, c *lru.Cache[K], want ...K) {
	t.Helper()
	if keys := c.Keys(); !slices.Equal(keys, want) {
		t.Fatalf("Keys() = %v, want %v", keys, want)
	}
	for _, key := range want {
		if !c.Has(key) {
			t.Fatalf("Has(%v) is false, and it is among the keys", key)
		}
	}
}

// answers asks for the errors that calls answered, one behind the other.
func answers(t *testing.T, got []api.Errno, want ...api.Errno) {
	t.Helper()
	if !slices.Equal(got, want) {
		t.Fatalf("answered %v, want %v", got, want)
	}
}

// pinned asks how often a key is pinned, and leaves it so.
func pinned[K comparable](t *testing.T, c *lru.Cache[K], key K, want int) {
	t.Helper()
	n := 0
	for c.Unpin(key) == api.OK {
		n++
	}
	for range n {
		c.Pin(key)
	}
	if n != want {
		t.Fatalf("%v is pinned %d times, want %d", key, n, want)
	}
}

// TestExample is the chapter's.
func TestExample(t *testing.T) {
	c := lru.New[string](2)
	fits(t, c, "a", "b", "a")
	goes(t, c, "c", "b")
	holds(t, c, "a", "c")
}

func TestNew(t *testing.T) {
	for _, v := range []struct{ frames, want int }{
		{math.MinInt, 1}, {-3, 1}, {-1, 1}, {0, 1}, {1, 1}, {2, 2}, {3, 3}, {40, 40}, {1000, 1000},
	} {
		c := lru.New[int](v.frames)
		holds(t, c)
		if c.Has(0) {
			t.Errorf("New(%d) has a key", v.frames)
		}
		for key := range v.want {
			fits(t, c, key)
		}
		for key := range v.want {
			goes(t, c, v.want+key, key)
		}
		if n := len(c.Keys()); n != v.want {
			t.Errorf("New(%d) holds %d keys", v.frames, n)
		}
	}
}

// TestManyFrames: they are not made ahead of the keys.
func TestManyFrames(t *testing.T) {
	c := lru.New[int](math.MaxInt)
	var want []int
	for key := range 50000 {
		fits(t, c, key*7%50000)
		want = append(want, key*7%50000)
	}
	holds(t, c, want...)
}

func TestUseOfOneThatIsThere(t *testing.T) {
	c := lru.New[string](3)
	fits(t, c, "a", "a", "b", "c") // frames are free
	holds(t, c, "a", "b", "c")
	fits(t, c, "a") // all are taken
	holds(t, c, "b", "c", "a")
	fits(t, c, "c")
	holds(t, c, "b", "a", "c")
	fits(t, c, "c", "c")
	holds(t, c, "b", "a", "c")
}

// TestUseOfOnePinned: it is used last then, as any other, and as pinned as it was, be all others pinned, too.
func TestUseOfOnePinned(t *testing.T) {
	c := lru.New[string](2)
	fits(t, c, "a", "b")
	answers(t, []api.Errno{c.Pin("a"), c.Pin("a"), c.Pin("b")}, api.OK, api.OK, api.OK)
	fits(t, c, "a")
	holds(t, c, "b", "a")
	pinned(t, c, "a", 2)
	pinned(t, c, "b", 1)
	full(t, c, "c")
	fits(t, c, "b")
	holds(t, c, "a", "b")
}

func TestUseOfOneThatIsNotThere(t *testing.T) {
	c := lru.New[string](3)
	fits(t, c, "c")
	holds(t, c, "c")
	fits(t, c, "a")
	holds(t, c, "c", "a")
	fits(t, c, "b")
	holds(t, c, "c", "a", "b")
	goes(t, c, "d", "c")
	holds(t, c, "a", "b", "d")
	goes(t, c, "c", "a")
	holds(t, c, "b", "d", "c")
	if c.Has("a") {
		t.Error("a has gone, and is there")
	}
}

// TestZeroKey: that it went is told by the true beside it.
func TestZeroKey(t *testing.T) {
	c := lru.New[int](1)
	fits(t, c, 0)
	goes(t, c, 1, 0)
	goes(t, c, 0, 1)
	answers(t, []api.Errno{c.Pin(0)}, api.OK)
	full(t, c, 1)
	fits(t, c, 0)
	holds(t, c, 0)
}

// TestPinnedStays: the first that is not pinned goes, wherever it stands.
func TestPinnedStays(t *testing.T) {
	names := []string{"a", "b", "c", "d"}
	for mask := range 1 << len(names) {
		c := lru.New[string](len(names))
		fits(t, c, names...)
		var stay, free []string
		for i, name := range names {
			if mask>>i&1 == 1 {
				answers(t, []api.Errno{c.Pin(name)}, api.OK)
				stay = append(stay, name)
			} else {
				free = append(free, name)
			}
		}
		for i, name := range free {
			goes(t, c, strings.ToUpper(name), name)
			for _, other := range free[:i+1] {
				if c.Has(other) {
					t.Fatalf("pinned %v: %s has gone, and is there", stay, other)
				}
			}
		}
		if len(free) == 0 {
			full(t, c, "x")
		} else {
			goes(t, c, "x", strings.ToUpper(free[0]))
		}
		for _, name := range stay {
			if !c.Has(name) {
				t.Fatalf("pinned %v: %s has gone", stay, name)
			}
		}
	}
}

// TestAllPinned: nothing is changed then, neither the keys, nor their order, nor how often they are pinned.
func TestAllPinned(t *testing.T) {
	c := lru.New[string](3)
	fits(t, c, "a", "b", "c", "a")
	for i, name := range []string{"a", "b", "c"} {
		for range i + 1 {
			answers(t, []api.Errno{c.Pin(name)}, api.OK)
		}
	}
	for range 3 {
		full(t, c, "d")
		full(t, c, "")
		holds(t, c, "b", "c", "a")
		if c.Has("d") || c.Has("") {
			t.Fatal("a key that found no frame is there")
		}
	}
	for i, name := range []string{"a", "b", "c"} {
		pinned(t, c, name, i+1)
	}
	answers(t, []api.Errno{c.Pin("d"), c.Unpin("d"), c.Drop("d")}, api.ErrNone, api.ErrNone, api.ErrNone)
	answers(t, []api.Errno{c.Unpin("c"), c.Unpin("c")}, api.OK, api.OK)
	full(t, c, "d")
	answers(t, []api.Errno{c.Unpin("c")}, api.OK)
	goes(t, c, "d", "c")
	holds(t, c, "b", "a", "d")
}

// TestNotThere: whether it never was, went, or was dropped.
func TestNotThere(t *testing.T) {
	c := lru.New[string](2)
	for range 2 {
		for _, name := range []string{"never", "", "went", "dropped"} {
			answers(t, []api.Errno{c.Pin(name), c.Unpin(name), c.Drop(name)}, api.ErrNone, api.ErrNone, api.ErrNone)
			if c.Has(name) {
				t.Errorf("%q is there", name)
			}
		}
		c = lru.New[string](2)
		fits(t, c, "went", "dropped")
		goes(t, c, "a", "went")
		answers(t, []api.Errno{c.Drop("dropped")}, api.OK)
		fits(t, c, "b")
		holds(t, c, "a", "b")
	}
	holds(t, c, "a", "b")
	pinned(t, c, "a", 0)
	pinned(t, c, "b", 0)
}

func TestUnpinOfOneNotPinned(t *testing.T) {
	c := lru.New[string](1)
	fits(t, c, "a")
	answers(t, []api.Errno{c.Unpin("a"), c.Unpin("a")}, api.ErrState, api.ErrState)
	answers(t, []api.Errno{c.Pin("a"), c.Unpin("a"), c.Unpin("a")}, api.OK, api.OK, api.ErrState)
	pinned(t, c, "a", 0)
	goes(t, c, "b", "a") // the errors left nothing to make up for
	answers(t, []api.Errno{c.Pin("b")}, api.OK)
	full(t, c, "c")
}

func TestDropOfOnePinned(t *testing.T) {
	c := lru.New[string](3)
	fits(t, c, "a", "b", "c")
	answers(t, []api.Errno{c.Pin("b"), c.Drop("b"), c.Drop("b")}, api.OK, api.ErrState, api.ErrState)
	holds(t, c, "a", "b", "c")
	pinned(t, c, "b", 1)
	answers(t, []api.Errno{c.Unpin("b"), c.Drop("b"), c.Drop("b")}, api.OK, api.OK, api.ErrNone)
	holds(t, c, "a", "c")
}

// TestPinnedOften: a pin is taken away as often as it was put.
func TestPinnedOften(t *testing.T) {
	for _, times := range []int{1, 2, 3, 300, 70000} {
		c := lru.New[string](2)
		fits(t, c, "a", "b")
		for range times {
			answers(t, []api.Errno{c.Pin("a")}, api.OK)
		}
		for range times {
			answers(t, []api.Errno{c.Drop("a")}, api.ErrState)
			answers(t, []api.Errno{c.Unpin("a")}, api.OK)
		}
		answers(t, []api.Errno{c.Unpin("a"), c.Drop("a"), c.Unpin("a")}, api.ErrState, api.OK, api.ErrNone)
		holds(t, c, "b")
	}
}

// TestDrop frees a frame, from whichever place.
func TestDrop(t *testing.T) {
	for _, v := range []struct{ drop, left string }{{"a", "bcd"}, {"b", "acd"}, {"c", "abd"}, {"d", "abc"}} {
		c := lru.New[string](4)
		fits(t, c, "a", "b", "c", "d")
		answers(t, []api.Errno{c.Drop(v.drop)}, api.OK)
		left := strings.Split(v.left, "")
		holds(t, c, left...)
		fits(t, c, "e")
		holds(t, c, append(left, "e")...)
		for i, name := range left {
			goes(t, c, strings.Repeat("f", i+1), name)
		}
		goes(t, c, "g", "e")
	}
	c := lru.New[string](1) // the last one
	for range 3 {
		fits(t, c, "a")
		answers(t, []api.Errno{c.Drop("a")}, api.OK)
		holds(t, c)
	}
}

// TestBackAgain: a key that went, or was dropped, comes back as a new one: used last, and not pinned.
func TestBackAgain(t *testing.T) {
	c := lru.New[string](2)
	fits(t, c, "a", "b")
	answers(t, []api.Errno{c.Pin("a"), c.Pin("a"), c.Unpin("a"), c.Unpin("a")}, api.OK, api.OK, api.OK, api.OK)
	goes(t, c, "c", "a")
	goes(t, c, "a", "b")
	holds(t, c, "c", "a")
	pinned(t, c, "a", 0)
	answers(t, []api.Errno{c.Drop("c")}, api.OK)
	fits(t, c, "c")
	holds(t, c, "a", "c")
	pinned(t, c, "c", 0)
	goes(t, c, "b", "a")
}

// TestNoUse: Pin, Unpin, Drop of others, Has and Keys leave the order as it was, also where they answer an error.
func TestNoUse(t *testing.T) {
	calls := map[string]func(c *lru.Cache[string]){
		"Pin":              func(c *lru.Cache[string]) { c.Pin("a") },
		"Pin and Unpin":    func(c *lru.Cache[string]) { c.Pin("a"); c.Unpin("a") },
		"Unpin, ErrState":  func(c *lru.Cache[string]) { c.Unpin("a") },
		"Drop, ErrState":   func(c *lru.Cache[string]) { c.Pin("a"); c.Drop("a") },
		"Drop of another":  func(c *lru.Cache[string]) { c.Drop("x") },
		"Has":              func(c *lru.Cache[string]) { c.Has("a"); c.Has("b"); c.Has("none") },
		"Keys":             func(c *lru.Cache[string]) { c.Keys() },
		"one not there":    func(c *lru.Cache[string]) { c.Pin("none"); c.Unpin("none"); c.Drop("none") },
		"Pin of the first": func(c *lru.Cache[string]) { c.Pin("a"); c.Pin("a"); c.Unpin("a"); c.Unpin("a") },
	}
	for name, call := range calls {
		c := lru.New[string](4)
		fits(t, c, "a", "x", "b", "c")
		call(c)
		keys := slices.DeleteFunc(c.Keys(), func(key string) bool { return key == "x" })
		if !slices.Equal(keys, []string{"a", "b", "c"}) {
			t.Errorf("%s: %v", name, keys)
		}
		for c.Unpin("a") == api.OK {
		}
		c.Drop("x")
		fits(t, c, "d")
		goes(t, c, "e", "a")
		goes(t, c, "f", "b")
	}
}

// TestKeysAreTheCallers is R1: who was told the keys may write over them, and over the room behind them.
func TestKeysAreTheCallers(t *testing.T) {
	c := lru.New[int](5)
	fits(t, c, 1, 2, 3)
	first, second := c.Keys(), c.Keys()
	for i := range first[:cap(first)] {
		first[:cap(first)][i] = 9
	}
	if !slices.Equal(second, []int{1, 2, 3}) {
		t.Errorf("two answers share their keys: %v", second)
	}
	holds(t, c, 1, 2, 3)
	fits(t, c, 4, 1)
	if !slices.Equal(second, []int{1, 2, 3}) {
		t.Errorf("an answer was changed later: %v", second)
	}
	_ = append(second, 7, 7, 7)
	holds(t, c, 2, 3, 4, 1)
}

// TestTwoCaches is R3: by turns, with the same keys, each is as if it were alone.
func TestTwoCaches(t *testing.T) {
	a, b := lru.New[string](2), lru.New[string](2)
	fits(t, a, "x", "y")
	holds(t, b)
	answers(t, []api.Errno{b.Pin("x"), b.Unpin("x"), b.Drop("x")}, api.ErrNone, api.ErrNone, api.ErrNone)
	fits(t, b, "y", "x")
	answers(t, []api.Errno{a.Pin("x"), b.Unpin("x"), b.Pin("y"), a.Unpin("y")}, api.OK, api.ErrState, api.OK, api.ErrState)
	holds(t, a, "x", "y")
	holds(t, b, "y", "x")
	goes(t, a, "z", "y")
	goes(t, b, "z", "x")
	answers(t, []api.Errno{a.Drop("z"), b.Drop("x")}, api.OK, api.ErrNone)
	holds(t, a, "x")
	holds(t, b, "y", "z")
}

// TestKinds: keys of other kinds are the same just if == says so.
func TestKinds(t *testing.T) {
	type place struct {
		name string
		page int
	}
	c := lru.New[place](2)
	fits(t, c, place{"f", 0}, place{"f", 1}, place{"f", 0})
	goes(t, c, place{"g", 1}, place{"f", 1})
	holds(t, c, place{"f", 0}, place{"g", 1})

	x, y := new(int), new(int)
	p := lru.New[*int](2)
	fits(t, p, x, y, x)
	goes(t, p, nil, y)
	holds(t, p, x, nil)

	e := lru.New[struct{}](2) // there is but one
	fits(t, e, struct{}{}, struct{}{})
	holds(t, e, struct{}{})

	a := lru.New[any](3)
	fits[any](t, a, 1, "1", int8(1))
	fits[any](t, a, 1)
	goes[any](t, a, nil, "1")
	goes[any](t, a, [1]int{1}, int8(1))
	holds[any](t, a, 1, nil, [1]int{1})
}
