package heap_test

import (
	"math"
	"slices"
	"testing"

	"cartage/api"
	"cartage/heap"
)

// number, word and card are things of three kinds; the zero one of each is a thing as any other.
type number int

func (n number) Before(m number) bool { return n < m }

type word string

func (w word) Before(v word) bool { return w < v }

type card struct {
	suit  byte
	value float64
}

func (c card) Before(d card) bool {
	return c.suit < d.suit || c.suit == d.suit && c.value > d.value // the greater value is ahead
}

// push pushes things, and asks for Len behind each.
func push[T heap.Item[T]](t *testing.T, h *heap.Heap[T], things ...T) {
	t.Helper()
	for _, x := range things {
		n := h.Len()
		h.Push(x)
		if h.Len() != n+1 {
			t.Fatalf("Len() = %d behind Push(%v), and was %d", h.Len(), x, n)
		}
	}
}

// peek asks for the first, which stays.
func peek[T interface {
	comparable
	heap.Item[T]
}](t *testing.T, h *heap.Heap[T], want T) {
	t.Helper()
	n := h.Len()
	for range 2 {
		if x, is := h.Peek(); x != want || !is {
			t.Fatalf("Peek() = %v, %v, want %v, true", x, is, want)
		}
	}
	if h.Len() != n {
		t.Fatalf("Len() = %d behind Peek, and was %d", h.Len(), n)
	}
}

// pop asks for the first ones, which go.
func pop[T interface {
	comparable
	heap.Item[T]
}](t *testing.T, h *heap.Heap[T], want ...T) {
	t.Helper()
	for _, w := range want {
		peek(t, h, w)
		n := h.Len()
		if x, is := h.Pop(); x != w || !is {
			t.Fatalf("Pop() = %v, %v, want %v, true (of %v)", x, is, w, want)
		}
		if h.Len() != n-1 {
			t.Fatalf("Len() = %d behind Pop, and was %d", h.Len(), n)
		}
	}
}

// none asks that there is nothing, however often it is asked.
func none[T interface {
	comparable
	heap.Item[T]
}](t *testing.T, h *heap.Heap[T]) {
	t.Helper()
	var zero T
	for range 3 {
		if x, is := h.Peek(); x != zero || is {
			t.Fatalf("Peek() = %v, %v of none", x, is)
		}
		if x, is := h.Pop(); x != zero || is {
			t.Fatalf("Pop() = %v, %v of none", x, is)
		}
		if h.Len() != 0 {
			t.Fatalf("Len() = %d of none", h.Len())
		}
	}
}

// rises pushes things, and asks that just these are popped, rising.
func rises(t *testing.T, h *heap.Heap[number], things []number) {
	t.Helper()
	push(t, h, things...)
	pop(t, h, slices.Sorted(slices.Values(things))...)
	none(t, h)
}

// TestExample is the chapter's.
func TestExample(t *testing.T) {
	var h heap.Heap[number]
	push(t, &h, 3, 1, 2)
	pop(t, &h, 1)
	pop(t, &h, 2, 3)
	none(t, &h)
}

// TestZero: a zero heap is one, however it was made.
func TestZero(t *testing.T) {
	var h heap.Heap[number]
	none(t, &h)
	push(t, &h, 7)
	pop(t, &h, 7)
	none(t, &h)
	none(t, new(heap.Heap[api.Rec]))
	none(t, &heap.Heap[card]{})
	list := make([]heap.Heap[word], 3)
	none(t, &list[1])
	push(t, &list[1], "b", "a")
	none(t, &list[0])
	none(t, &list[2])
	pop(t, &list[1], "a", "b")
}

// TestPeek: the first of what there is behind each Push and Pop.
func TestPeek(t *testing.T) {
	var h heap.Heap[number]
	for _, v := range []struct{ x, first number }{{5, 5}, {7, 5}, {5, 5}, {3, 3}, {4, 3}, {-9, -9}, {0, -9}} {
		push(t, &h, v.x)
		peek(t, &h, v.first)
	}
	pop(t, &h, -9)
	peek(t, &h, 0)
	pop(t, &h, 0, 3, 4, 5, 5)
	peek(t, &h, 7)
	push(t, &h, 6)
	peek(t, &h, 6)
	pop(t, &h, 6, 7)
	none(t, &h)
}

// TestOnceMore: what is pushed so many times is popped so many times.
func TestOnceMore(t *testing.T) {
	var h heap.Heap[word]
	push(t, &h, "b", "a", "b", "b", "a", "")
	pop(t, &h, "", "a")
	push(t, &h, "a")
	pop(t, &h, "a", "a", "b")
	push(t, &h, "b", "c")
	pop(t, &h, "b", "b", "b", "c")
	none(t, &h)
}

// TestZeroThing: a zero value that is there is told by the true beside it.
func TestZeroThing(t *testing.T) {
	var h heap.Heap[number]
	push(t, &h, 0, 0)
	pop(t, &h, 0, 0)
	none(t, &h)
	var r heap.Heap[api.Rec]
	push(t, &r, api.Rec{})
	pop(t, &r, api.Rec{})
	none(t, &r)
}

// rows does something with each row of so many numbers below a limit.
func rows(size, limit int, row []number, do func([]number)) {
	if len(row) == size {
		do(row)
		return
	}
	for n := range limit {
		rows(size, limit, append(row, number(n)), do)
	}
}

// orders does something with each order of the things from that place on.
func orders(things []number, from int, do func([]number)) {
	if from == len(things) {
		do(things)
		return
	}
	for i := from; i < len(things); i++ {
		things[from], things[i] = things[i], things[from]
		orders(things, from+1, do)
		things[from], things[i] = things[i], things[from]
	}
}

// TestAllRows: of up to six things, each of them one of six, or of up to twelve, one of two, in whichever order.
func TestAllRows(t *testing.T) {
	var h heap.Heap[number]
	check := func(row []number) { rises(t, &h, row) }
	for size := range 7 {
		rows(size, 6, nil, check)
	}
	for size := range 13 {
		rows(size, 2, nil, check)
	}
}

// TestAllOrders: of up to eight things, none of them like another.
func TestAllOrders(t *testing.T) {
	for size := range 9 {
		var things []number
		for n := range size {
			things = append(things, number(n))
		}
		orders(things, 0, func(order []number) {
			var h heap.Heap[number]
			rises(t, &h, order)
		})
	}
}

// shapes are long rows of things: rising, falling, alike and mixed.
func shapes(size int) map[string][]number {
	of := func(at func(i int) int) (row []number) {
		for i := range size {
			row = append(row, number(at(i)))
		}
		return row
	}
	d := dice(size)
	return map[string][]number{
		"rising":       of(func(i int) int { return i }),
		"falling":      of(func(i int) int { return -i }),
		"alike":        of(func(int) int { return 5 }),
		"by turns":     of(func(i int) int { return i * (1 - i%2*2) }),
		"up and down":  of(func(i int) int { return min(i, size-i) }),
		"down and up":  of(func(i int) int { return max(i, size-i) }),
		"mixed":        of(func(int) int { return d.roll(size) }),
		"mixed, few":   of(func(int) int { return d.roll(7) }),
		"mixed, great": of(func(int) int { return d.roll(1<<30)<<33 + math.MinInt }),
		"ends":         of(func(i int) int { return []int{math.MaxInt, math.MinInt, 0, -1}[i%4] }),
	}
}

func TestShapes(t *testing.T) {
	for _, size := range []int{1, 2, 3, 15, 16, 17, 100, 1023, 20000} {
		for name, row := range shapes(size) {
			t.Run(name, func(t *testing.T) {
				var h heap.Heap[number]
				rises(t, &h, row)
			})
		}
	}
}

// TestAgain: a heap that was popped to its end, and beyond, is as good as a new one.
func TestAgain(t *testing.T) {
	var h heap.Heap[number]
	for size := range 40 {
		for _, row := range shapes(size) {
			rises(t, &h, row)
		}
	}
}

// TestKinds: things of other types that keep the interface.
func TestKinds(t *testing.T) {
	var r heap.Heap[api.Rec]
	push(t, &r, api.Rec{Key: 2, Val: 1}, api.Rec{Key: 1, Val: 9}, api.Rec{Key: api.Never}, api.Rec{Key: 1, Val: 8})
	push(t, &r, api.Rec{Val: api.Never}, api.Rec{Key: 1, Val: 9}, api.Rec{Key: api.Never, Val: api.Never}, api.Rec{Key: 2})
	pop(t, &r, api.Rec{Val: api.Never}, api.Rec{Key: 1, Val: 8}, api.Rec{Key: 1, Val: 9}, api.Rec{Key: 1, Val: 9})
	pop(t, &r, api.Rec{Key: 2}, api.Rec{Key: 2, Val: 1}, api.Rec{Key: api.Never}, api.Rec{Key: api.Never, Val: api.Never})
	none(t, &r)

	var w heap.Heap[word]
	push(t, &w, "b", "", "ba", "a\x00", "\xff", "a", "B")
	pop(t, &w, "", "B", "a", "a\x00", "b", "ba", "\xff")
	none(t, &w)

	var c heap.Heap[card]
	push(t, &c, card{1, 2}, card{1, 3}, card{0, -1}, card{0, 0.5})
	pop(t, &c, card{0, 0.5}, card{0, -1}, card{1, 3}, card{1, 2})
	none(t, &c)
}

// TestTwoHeaps is R3: by turns, with the same things, each is as if it were alone.
func TestTwoHeaps(t *testing.T) {
	var a, b heap.Heap[number]
	push(t, &a, 3, 1)
	none(t, &b)
	push(t, &b, 2)
	peek(t, &a, 1)
	pop(t, &b, 2)
	none(t, &b)
	push(t, &b, 1, 0, 4)
	pop(t, &a, 1)
	push(t, &a, 9)
	pop(t, &b, 0, 1)
	pop(t, &a, 3, 9)
	none(t, &a)
	pop(t, &b, 4)
	none(t, &b)
}

// TestHandedInStays is R1: the list that things come from stays, and may be written over; what was told is the caller's.
func TestHandedInStays(t *testing.T) {
	list := []number{5, 2, 8, 1}
	var h heap.Heap[number]
	push(t, &h, list...)
	if !slices.Equal(list, []number{5, 2, 8, 1}) {
		t.Errorf("handed in and changed: %v", list)
	}
	clear(list)
	first, _ := h.Peek()
	first += 7
	pop(t, &h, 1, 2, 5, 8)
	if first != 8 {
		t.Errorf("told and changed: %v", first)
	}
}
