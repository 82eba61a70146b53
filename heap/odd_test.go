package heap_test

import (
	"math"
	"runtime"
	"testing"
	"weak"

	"cartage/heap"
)

// box is a thing behind a pointer; a nil one can't be looked into.
type box struct{ n int }

func (b *box) Before(c *box) bool { return b.n < c.n }

// beast is a thing that is an interface itself; a nil one has no Before.
type beast interface{ Before(beast) bool }

type cat int

func (c cat) Before(b beast) bool { return c < b.(cat) }

// dog is one that no cat can be held against.
type dog string

func (d dog) Before(b beast) bool { return d < b.(dog) }

// TestNil: nils are in it as any other, and go last; what there is beside them is popped rising.
func TestNil(t *testing.T) {
	boxes := []*box{{0}, {1}, {2}, {3}, {4}}
	var h heap.Heap[*box]
	push(t, &h, nil, boxes[3], nil, boxes[0], boxes[4], nil, boxes[2], boxes[1], nil)
	pop(t, &h, boxes[0], boxes[1], boxes[2])
	push(t, &h, nil, boxes[1])
	pop(t, &h, boxes[1], boxes[3], boxes[4], nil, nil)
	push(t, &h, boxes[2])
	pop(t, &h, boxes[2], nil, nil, nil)
	none(t, &h)

	var b heap.Heap[beast]
	push[beast](t, &b, nil, cat(3), nil, cat(1), cat(2), nil)
	pop[beast](t, &b, cat(1), cat(2), cat(3), nil, nil, nil)
	none(t, &b)
}

// TestNilAmongMany: at whichever place it comes.
func TestNilAmongMany(t *testing.T) {
	for at := range 7 {
		orders([]number{1, 2, 3, 4, 5, 6}, 0, func(order []number) {
			var h heap.Heap[beast]
			for i, n := range order {
				if i == at {
					h.Push(nil)
				}
				h.Push(cat(n))
			}
			if at == len(order) {
				h.Push(nil)
			}
			pop[beast](t, &h, cat(1), cat(2), cat(3), cat(4), cat(5), cat(6), nil)
			none(t, &h)
		})
	}
}

// TestKindsThatClash: those that can't be held against each other are all told, each as often as it was pushed.
func TestKindsThatClash(t *testing.T) {
	var h heap.Heap[beast]
	count := map[beast]int{}
	for i := range 50 {
		for _, x := range []beast{cat(i % 7), dog("d"), nil, dog("c")} {
			push(t, &h, x)
			count[x]++
		}
	}
	for n := 200; n > 0; n-- {
		first, _ := h.Peek()
		x, is := h.Pop()
		if x != first || !is || h.Len() != n-1 {
			t.Fatalf("Pop() = %v, %v, of %d, behind Peek() = %v", x, is, n, first)
		}
		count[x]--
	}
	for x, left := range count {
		if left != 0 {
			t.Errorf("%v: %d more were pushed than popped", x, left)
		}
	}
	none(t, &h)
}

// broken is a thing whose Before does whatever it likes.
type broken struct {
	name string
	do   func() bool
}

func (b *broken) Before(*broken) bool { return b.do() }

// TestBroken: what keeps no order, or panics, is told all the same, once for each time that it was pushed.
func TestBroken(t *testing.T) {
	d := dice(3)
	for name, do := range map[string]func() bool{
		"all are ahead": func() bool { return true },
		"none is ahead": func() bool { return false },
		"by chance":     func() bool { return d.roll(2) == 0 },
		"panics":        func() bool { panic("no") },
		"panics of nil": func() bool { panic(nil) },
		"by chance, or panics": func() bool {
			if d.roll(3) == 0 {
				panic("no")
			}
			return d.roll(2) == 0
		},
	} {
		t.Run(name, func(t *testing.T) {
			var h heap.Heap[*broken]
			seen := map[*broken]int{}
			for range 300 {
				x := &broken{name, do}
				push(t, &h, x)
				seen[x]++
			}
			for range 300 {
				first, _ := h.Peek()
				x, is := h.Pop()
				if x != first || !is {
					t.Fatalf("Pop() = %v, %v behind Peek() = %v", x, is, first)
				}
				seen[x]--
				if seen[x] != 0 {
					t.Fatal("popped more often than it was pushed")
				}
			}
			none(t, &h)
		})
	}
}

// TestWithin: a Before that uses the very heap has no call panic, or go on for ever.
func TestWithin(t *testing.T) {
	var h heap.Heap[*broken]
	depth := 0
	do := func() bool {
		if depth > 2 {
			return true
		}
		depth++
		defer func() { depth-- }()
		h.Peek()
		h.Pop()
		h.Pop()
		return h.Len()%2 == 0
	}
	for range 100 {
		h.Push(&broken{"within", do})
	}
	for range 100 {
		h.Pop()
	}
}

// float has values that stand neither ahead of any nor behind.
type float float64

func (f float) Before(g float) bool { return f < g }

// TestNoNumber: a float that is none is told as often as it was pushed.
func TestNoNumber(t *testing.T) {
	var h heap.Heap[float]
	push(t, &h, 2, float(math.NaN()), 1, float(math.NaN()), 3)
	numbers, others := 0, 0
	for range 5 {
		x, is := h.Pop()
		if !is {
			t.Fatal("one is missing")
		}
		if x == x {
			numbers++
		} else {
			others++
		}
	}
	if numbers != 3 || others != 2 {
		t.Errorf("%d numbers, and %d others", numbers, others)
	}
	none(t, &h)
}

// crate is a thing that is no small one.
type crate struct {
	n    int
	room [100]byte
}

func (c *crate) Before(d *crate) bool { return c.n < d.n }

// TestGoneIsNotKept: what was popped is nobody's but the caller's, while the heap goes on.
func TestGoneIsNotKept(t *testing.T) {
	var h heap.Heap[*crate]
	var gone []weak.Pointer[crate]
	for n := range 64 {
		x := &crate{n: n * 5 % 64}
		h.Push(x)
		gone = append(gone, weak.Make(x))
	}
	for range 63 {
		h.Pop()
	}
	left := 64
	for range 10 {
		runtime.GC()
		left = 0
		for _, w := range gone {
			if w.Value() != nil {
				left++
			}
		}
		if left == 1 {
			break
		}
	}
	if left != 1 || h.Len() != 1 {
		t.Errorf("%d things are kept, and %d are in it", left, h.Len())
	}
}
