package cells

import (
	"math"
	"slices"
	"strconv"
	"sync"
	"testing"
)

// numbers is places, owners and values at which something might go wrong.
var numbers = []int{math.MinInt, math.MinInt + 1, -1 << 32, -1025, -1024, -2, -1, 0, 1, 2, 3, 7, 1023, 1024, 1025, 1 << 31, 1 << 32, 1<<32 + 1, math.MaxInt - 1, math.MaxInt}

// sizes is numbers of cells or locks, and how many there are then.
var sizes = []struct{ n, want int }{
	{math.MinInt, 0}, {math.MinInt + 1, 0}, {-1 << 32, 0}, {-1024, 0}, {-2, 0}, {-1, 0}, {0, 0}, {1, 1}, {2, 2}, {3, 3}, {64, 64},
	{1023, 1023}, {1024, 1024}, {1025, 1024}, {2000, 1024}, {1 << 31, 1024}, {1 << 32, 1024}, {1<<32 + 1, 1024}, {math.MaxInt - 1, 1024}, {math.MaxInt, 1024},
}

// book is cells and locks by the chapter's own sentences: what stands in none of the two maps is 0, or free.
type book struct {
	cells, locks int
	held, owned  map[int]int
	shared       int
}

// newBook is a book of so many cells and locks.
func newBook(cells, locks int) *book {
	return &book{cells: cells, locks: locks, held: map[int]int{}, owned: map[int]int{}}
}

// call is one of the calls of what New made, of whatever it needs of these.
type call struct{ kind, i, a, b int }

// The kinds of calls; the first six are those that are counted.
const (
	load = iota
	store
	add
	swapped
	lock
	unlock
	owner
	shared
	kinds
)

// yes is a bool as a number.
func yes(b bool) int {
	if b {
		return 1
	}
	return 0
}

// tell is what a book tells of a call.
func (b *book) tell(x call) int {
	cell, hasLock := x.i >= 0 && x.i < b.cells, x.i >= 0 && x.i < b.locks
	who, taken := b.owned[x.i]
	switch {
	case x.kind == shared:
		return b.shared
	case x.kind == owner && taken:
		return who
	case x.kind == owner:
		return -1
	case x.kind < lock && !cell, x.kind >= lock && !hasLock:
		return 0
	}
	b.shared++
	switch x.kind {
	case load:
		return b.held[x.i]
	case store:
		b.held[x.i] = x.a
		return 0
	case add:
		b.held[x.i] = int(uint64(b.held[x.i]) + uint64(x.a))
		return b.held[x.i]
	case swapped:
		if b.held[x.i] != x.a {
			return 0
		}
		b.held[x.i] = x.b
		return 1
	case lock:
		if taken || x.a < 0 {
			return 0
		}
		b.owned[x.i] = x.a
		return 1
	}
	if !taken || who != x.a {
		return 0
	}
	delete(b.owned, x.i)
	return 1
}

// ask is what cells tell of a call.
func ask(c *Cells, x call) int {
	switch x.kind {
	case load:
		return c.Load(x.i)
	case store:
		c.Store(x.i, x.a)
		return 0
	case add:
		return c.Add(x.i, x.a)
	case swapped:
		return yes(c.Swap(x.i, x.a, x.b))
	case lock:
		return yes(c.Lock(x.i, x.a))
	case unlock:
		return yes(c.Unlock(x.i, x.a))
	case owner:
		return c.Owner(x.i)
	}
	return c.Shared()
}

// hold holds what cells tell of a call against what a book tells.
func hold(t *testing.T, c *Cells, b *book, x call) {
	t.Helper()
	if got, want := ask(c, x), b.tell(x); got != want {
		t.Fatalf("%+v: %d, not %d", x, got, want)
	}
	if c.Shared() != b.shared {
		t.Fatalf("%+v: shared %d, not %d", x, c.Shared(), b.shared)
	}
}

// holdAll holds all that cells hold against what a book says.
func holdAll(t *testing.T, c *Cells, b *book) {
	t.Helper()
	for i := range b.cells {
		hold(t, c, b, call{kind: load, i: i})
	}
	for i := range b.locks {
		hold(t, c, b, call{kind: owner, i: i})
	}
	for _, i := range []int{-1, b.cells, b.cells + 1} {
		hold(t, c, b, call{kind: load, i: i})
	}
	for _, i := range []int{-1, b.locks, b.locks + 1} {
		hold(t, c, b, call{kind: owner, i: i})
	}
}

// want fails, if something is not so.
func want(t *testing.T, name string, so bool) {
	t.Helper()
	if !so {
		t.Error(name)
	}
}

// P2: the chapter's examples.
func TestExamples(t *testing.T) {
	c := New(1, 1)
	want(t, "Add(0, 5) tells 5", c.Add(0, 5) == 5)
	want(t, "Lock(0, 3) true", c.Lock(0, 3))
	want(t, "Lock(0, 4) false", !c.Lock(0, 4))
	want(t, "what is held", c.Load(0) == 5 && c.Owner(0) == 3)
	want(t, "three calls, and Load", c.Shared() == 4)
}

// P1, P2: New of all numbers, of cells and of locks apart; all cells are 0, and all locks free.
func TestNew(t *testing.T) {
	for _, x := range sizes {
		for _, y := range sizes {
			c := New(x.n, y.n)
			if c.Shared() != 0 {
				t.Fatalf("%d %d: shared %d", x.n, y.n, c.Shared())
			}
			// Beside each number of cells any number of locks: some of the places tell them apart.
			for _, i := range []int{0, x.want - 1, x.want, y.want - 1, y.want, 1023, 1024} {
				cell, hasLock := i >= 0 && i < x.want, i >= 0 && i < y.want
				was := c.Shared()
				if c.Load(i) != 0 || c.Shared()-was != yes(cell) {
					t.Fatalf("%d %d: cell %d", x.n, y.n, i)
				}
				was = c.Shared()
				if c.Owner(i) != -1 || c.Unlock(i, 0) || c.Shared()-was != yes(hasLock) {
					t.Fatalf("%d %d: lock %d", x.n, y.n, i)
				}
			}
		}
	}
}

// P2: of all cells and locks of New each one is there, 0 or free, and may be used; no other one is.
func TestNewAllOfThem(t *testing.T) {
	for _, x := range sizes {
		for _, y := range []int{0, 1, 1024} {
			many, few := New(x.n, y), New(y, x.n)
			cells, locks := 0, 0
			for i := -3; i < 1030; i++ {
				if many.Load(i) != 0 || few.Owner(i) != -1 {
					t.Fatalf("%d: place %d", x.n, i)
				}
				cells += yes(many.Swap(i, 0, 9))
				locks += yes(few.Lock(i, 9))
			}
			if cells != x.want || locks != x.want {
				t.Errorf("%d: %d cells, %d locks", x.n, cells, locks)
			}
		}
	}
}

// edges is cells and locks of which there is more of one, or of the other one, or none.
var edges = []struct{ cells, locks int }{{0, 0}, {0, 1}, {1, 0}, {1, 1}, {2, 5}, {5, 2}, {3, 3}, {0, 1024}, {1024, 0}, {1024, 1024}, {1023, 1024}, {1024, 1023}}

// P1, P2: each call of the first place, of the last one, of one below 0, of the one behind the last one, and of the greatest and the lowest number.
func TestPlaces(t *testing.T) {
	for _, e := range edges {
		c, b := New(e.cells, e.locks), newBook(e.cells, e.locks)
		for _, i := range append([]int{e.cells - 1, e.cells, e.cells + 1, e.locks - 1, e.locks, e.locks + 1}, numbers...) {
			for _, x := range []call{
				{load, i, 0, 0}, {store, i, 7, 0}, {load, i, 0, 0}, {add, i, 3, 0}, {load, i, 0, 0}, {swapped, i, 10, 4}, {load, i, 0, 0},
				{swapped, i, 10, 5}, {load, i, 0, 0}, {swapped, i, 0, 5}, {owner, i, 0, 0}, {unlock, i, 6, 0}, {lock, i, 6, 0}, {owner, i, 0, 0},
				{lock, i, 8, 0}, {owner, i, 0, 0}, {unlock, i, 8, 0}, {owner, i, 0, 0}, {unlock, i, 6, 0}, {owner, i, 0, 0}, {unlock, i, 6, 0}, {lock, i, 2, 0}, {shared, i, 0, 0},
			} {
				hold(t, c, b, x)
			}
		}
		holdAll(t, c, b)
	}
}

// P2: of a cell that there is not Load and Add tell 0, Swap false, and Store does nothing, also where there is such a lock.
func TestNoSuchCell(t *testing.T) {
	for _, e := range edges {
		c := New(e.cells, e.locks)
		for _, i := range numbers {
			if i >= 0 && i < e.cells {
				continue
			}
			c.Store(i, 9)
			if c.Load(i) != 0 || c.Add(i, 9) != 0 || c.Add(i, math.MinInt) != 0 || c.Swap(i, 0, 9) || c.Swap(i, 9, 9) || c.Swap(i, 0, 0) || c.Load(i) != 0 {
				t.Errorf("%v: %d", e, i)
			}
		}
		if c.Shared() != 0 {
			t.Errorf("%v: shared %d", e, c.Shared())
		}
		holdAll(t, c, newBook(e.cells, e.locks))
	}
}

// P2: of a lock that there is not Lock and Unlock tell false, and Owner -1, also where there is such a cell.
func TestNoSuchLock(t *testing.T) {
	for _, e := range edges {
		c := New(e.cells, e.locks)
		for _, i := range numbers {
			if i >= 0 && i < e.locks {
				continue
			}
			for _, who := range numbers {
				if c.Unlock(i, who) || c.Lock(i, who) || c.Owner(i) != -1 || c.Lock(i, who) || c.Unlock(i, who) || c.Owner(i) != -1 {
					t.Errorf("%v: %d by %d", e, i, who)
				}
			}
		}
		if c.Shared() != 0 {
			t.Errorf("%v: shared %d", e, c.Shared())
		}
		holdAll(t, c, newBook(e.cells, e.locks))
	}
}

// P2: a cell holds what was stored last, whatever it is; the others stay as they are.
func TestStore(t *testing.T) {
	c := New(3, 0)
	c.Store(0, 11)
	c.Store(2, 33)
	for _, v := range numbers {
		for _, u := range numbers {
			c.Store(1, v)
			c.Store(1, u)
			if c.Load(1) != u || c.Load(1) != u || c.Load(0) != 11 || c.Load(2) != 33 {
				t.Fatal(v, u)
			}
		}
	}
}

// P2: Add tells what is held then, and goes round at both ends.
func TestAdd(t *testing.T) {
	for _, x := range []struct{ held, d, want int }{
		{0, 0, 0}, {0, 5, 5}, {5, 0, 5}, {5, 3, 8}, {5, -3, 2}, {5, -5, 0}, {5, -8, -3}, {-3, 5, 2}, {-3, -5, -8},
		{math.MaxInt, 1, math.MinInt}, {math.MinInt, -1, math.MaxInt}, {1, math.MaxInt, math.MinInt}, {-1, math.MinInt, math.MaxInt},
		{math.MaxInt, 0, math.MaxInt}, {math.MinInt, 0, math.MinInt}, {math.MaxInt - 1, 1, math.MaxInt}, {math.MinInt + 1, -1, math.MinInt},
		{math.MaxInt, math.MaxInt, -2}, {math.MinInt, math.MinInt, 0}, {math.MaxInt, math.MinInt, -1}, {math.MinInt, math.MaxInt, -1},
		{math.MaxInt, 2, math.MinInt + 1}, {math.MinInt, -2, math.MaxInt - 1}, {0, math.MinInt, math.MinInt}, {0, math.MaxInt, math.MaxInt},
		{1<<31 - 1, 1, 1 << 31}, {1<<32 - 1, 1, 1 << 32}, {-1 << 31, -1, -1<<31 - 1}, {1 << 53, 1, 1<<53 + 1},
	} {
		c := New(3, 0)
		c.Store(1, x.held)
		if got := c.Add(1, x.d); got != x.want || c.Load(1) != x.want || c.Load(0) != 0 || c.Load(2) != 0 {
			t.Errorf("%+v: %d, %d", x, got, c.Load(1))
		}
		if c.Add(1, -x.d) != x.held {
			t.Errorf("%+v: not back", x)
		}
	}
}

// P2: Add puts more into what is there, again and again.
func TestAddAgain(t *testing.T) {
	c := New(1, 0)
	for i := range 100 {
		if got := c.Add(0, i); got != i*(i+1)/2 || c.Load(0) != got {
			t.Fatal(i, got)
		}
	}
}

// P2: Swap finds what was asked for, or does not; then nothing is changed.
func TestSwap(t *testing.T) {
	for _, held := range numbers {
		for _, old := range numbers {
			for _, v := range numbers {
				c := New(3, 0)
				c.Store(0, old)
				c.Store(1, held)
				c.Store(2, old)
				ok, then := held == old, held
				if ok {
					then = v
				}
				if c.Swap(1, old, v) != ok || c.Load(1) != then || c.Load(0) != old || c.Load(2) != old {
					t.Fatal(held, old, v)
				}
			}
		}
	}
	c := New(1, 0)
	want(t, "of a new one", c.Swap(0, 0, 5) && c.Load(0) == 5)
	want(t, "again", !c.Swap(0, 0, 6) && c.Load(0) == 5)
	want(t, "of the same", c.Swap(0, 5, 5) && c.Load(0) == 5)
	want(t, "back", c.Swap(0, 5, 0) && c.Load(0) == 0)
}

// P2: a free lock is taken by one that is at least 0, and by nobody else; who holds it may not take it again, nor may another one.
func TestLock(t *testing.T) {
	for _, who := range numbers {
		for _, other := range numbers {
			c := New(0, 3)
			took := who >= 0
			if c.Lock(1, who) != took {
				t.Fatal(who)
			}
			if took {
				if c.Lock(1, who) || c.Lock(1, other) || c.Owner(1) != who {
					t.Fatal(who, other)
				}
			} else if c.Owner(1) != -1 || c.Lock(1, other) != (other >= 0) || c.Owner(1) != max(other, -1) {
				t.Fatal(who, other)
			}
			if c.Owner(0) != -1 || c.Owner(2) != -1 || !c.Lock(0, 5) || !c.Lock(2, 5) {
				t.Fatal(who, other)
			}
		}
	}
}

// P2: a lock is freed by the one whose it is alone; a free one is nobody's.
func TestUnlock(t *testing.T) {
	for _, who := range numbers {
		for _, other := range numbers {
			c := New(0, 3)
			if c.Unlock(1, other) || c.Owner(1) != -1 {
				t.Fatal("free", other)
			}
			if who < 0 {
				continue
			}
			if !c.Lock(0, who) || !c.Lock(1, who) || !c.Lock(2, who) {
				t.Fatal(who)
			}
			if other != who && (c.Unlock(1, other) || c.Owner(1) != who || c.Lock(1, other)) {
				t.Fatal(who, other)
			}
			if !c.Unlock(1, who) || c.Owner(1) != -1 || c.Unlock(1, who) || c.Owner(1) != -1 || c.Unlock(1, other) {
				t.Fatal(who, other)
			}
			if c.Owner(0) != who || c.Owner(2) != who {
				t.Fatal("others", who)
			}
			// What was freed is as it was at first: anyone may take it.
			if c.Lock(1, other) != (other >= 0) || c.Owner(1) != max(other, -1) {
				t.Fatal("again", other)
			}
		}
	}
}

// P2: Owner of a free lock, of one that is held, of one that was freed, and of one that there is not.
func TestOwner(t *testing.T) {
	c := New(4, 2)
	want(t, "free", c.Owner(0) == -1 && c.Owner(1) == -1)
	c.Lock(1, 0)
	want(t, "held by 0", c.Owner(1) == 0 && c.Owner(0) == -1)
	c.Lock(0, math.MaxInt)
	want(t, "held by the greatest", c.Owner(0) == math.MaxInt && c.Owner(1) == 0)
	c.Unlock(1, 0)
	want(t, "freed", c.Owner(1) == -1 && c.Owner(0) == math.MaxInt)
	for _, i := range []int{-1, 2, 3, 1024, math.MaxInt, math.MinInt} {
		want(t, "none", c.Owner(i) == -1)
	}
}

// P2: cells and locks are apart: what a cell holds is no lock's, and the other way round.
func TestCellsAndLocksApart(t *testing.T) {
	c := New(2, 2)
	c.Store(0, 5)
	want(t, "a cell locks nothing", c.Owner(0) == -1 && c.Lock(0, 3) && c.Load(0) == 5)
	c.Store(0, -1)
	want(t, "a cell frees nothing", c.Owner(0) == 3 && !c.Lock(0, 4))
	want(t, "a lock is no cell", c.Lock(1, 8) && c.Load(1) == 0 && c.Swap(1, 0, 2) && c.Owner(1) == 8)
	want(t, "a lock bars no cell", c.Add(0, 1) == 0 && c.Unlock(0, 3) && c.Load(0) == 0)
}

// P2: Shared counts the first six, of what there is, also where they tell false; it does not count what else is called.
func TestShared(t *testing.T) {
	c, sum := New(2, 1), 0
	for _, x := range []struct {
		name   string
		counts int
		do     func()
	}{
		{"nothing yet", 0, func() {}},
		{"Load", 1, func() { c.Load(0) }},
		{"Load of the last one", 1, func() { c.Load(1) }},
		{"Load of none", 0, func() { c.Load(2) }},
		{"Load below 0", 0, func() { c.Load(-1) }},
		{"Store", 1, func() { c.Store(1, 5) }},
		{"Store of the same", 1, func() { c.Store(1, 5) }},
		{"Store of none", 0, func() { c.Store(2, 5) }},
		{"Store below 0", 0, func() { c.Store(-1, 5) }},
		{"Add", 1, func() { c.Add(1, 5) }},
		{"Add of 0", 1, func() { c.Add(1, 0) }},
		{"Add of none", 0, func() { c.Add(2, 5) }},
		{"Add below 0", 0, func() { c.Add(-1, 5) }},
		{"Swap", 1, func() { c.Swap(1, 10, 4) }},
		{"Swap that tells false", 1, func() { c.Swap(1, 10, 4) }},
		{"Swap of none", 0, func() { c.Swap(2, 0, 4) }},
		{"Swap below 0", 0, func() { c.Swap(-1, 0, 4) }},
		{"Unlock of a free one", 1, func() { c.Unlock(0, 4) }},
		{"Unlock of a free one by -1", 1, func() { c.Unlock(0, -1) }},
		{"Lock below 0", 1, func() { c.Lock(0, -1) }},
		{"Lock by the lowest", 1, func() { c.Lock(0, math.MinInt) }},
		{"Lock", 1, func() { c.Lock(0, 4) }},
		{"Lock again", 1, func() { c.Lock(0, 4) }},
		{"Lock by another one", 1, func() { c.Lock(0, 5) }},
		{"Lock of none", 0, func() { c.Lock(1, 4) }},
		{"Lock of none below 0", 0, func() { c.Lock(-1, 4) }},
		{"Unlock by another one", 1, func() { c.Unlock(0, 5) }},
		{"Unlock by -1", 1, func() { c.Unlock(0, -1) }},
		{"Unlock", 1, func() { c.Unlock(0, 4) }},
		{"Unlock of none", 0, func() { c.Unlock(1, 4) }},
		{"Unlock of none below 0", 0, func() { c.Unlock(-1, 4) }},
		{"Owner", 0, func() { c.Owner(0) }},
		{"Owner of none", 0, func() { c.Owner(1) }},
		{"Shared", 0, func() { c.Shared() }},
		{"New", 0, func() { New(2, 1).Load(0) }},
	} {
		x.do()
		if sum += x.counts; c.Shared() != sum || c.Shared() != sum {
			t.Fatalf("%s: %d, not %d", x.name, c.Shared(), sum)
		}
	}
}

// P2: two that New made do not disturb one another, also of the same numbers.
func TestTwo(t *testing.T) {
	for _, n := range []int{1, 3, 1024} {
		c, d := New(n, n), New(n, n)
		for i := range n {
			c.Store(i, i+1)
			c.Lock(i, i)
		}
		if d.Shared() != 0 || c.Shared() != 2*n {
			t.Errorf("%d: shared %d, %d", n, c.Shared(), d.Shared())
		}
		holdAll(t, d, newBook(n, n))
		for i := range n {
			d.Store(i, -7)
			d.Lock(i, n)
			d.Unlock(i, n)
		}
		for i := range n {
			if c.Load(i) != i+1 || c.Owner(i) != i || d.Load(i) != -7 || d.Owner(i) != -1 {
				t.Fatalf("%d: %d", n, i)
			}
		}
	}
}

// P2: each of many cells and locks has a thing of its own.
func TestEachItsOwn(t *testing.T) {
	c := New(1024, 1024)
	for i := range 1024 {
		c.Store(i, 3*i-7)
		want(t, "lock "+strconv.Itoa(i), c.Lock(i, 1023-i))
	}
	for i := range 1024 {
		if c.Load(i) != 3*i-7 || c.Owner(i) != 1023-i {
			t.Fatalf("%d: %d, %d", i, c.Load(i), c.Owner(i))
		}
	}
	for i := 0; i < 1024; i += 2 {
		want(t, "unlock "+strconv.Itoa(i), c.Unlock(i, 1023-i))
	}
	for i := range 1024 {
		if c.Owner(i) != []int{-1, 1023 - i}[i%2] {
			t.Fatalf("%d: %d", i, c.Owner(i))
		}
	}
}

// P1: no call panics, at all these arguments; each tells what the chapter's sentences tell.
func TestAllArguments(t *testing.T) {
	for _, e := range edges {
		c, b := New(e.cells, e.locks), newBook(e.cells, e.locks)
		for kind := range kinds {
			for _, i := range numbers {
				for _, x := range numbers {
					for _, y := range []int{math.MinInt, -1, 0, 1, math.MaxInt} {
						hold(t, c, b, call{kind, i, x, y})
					}
				}
			}
		}
		holdAll(t, c, b)
	}
}

// P2: all rows of four calls, of one cell and one lock, and of places beside them.
func TestAllShortRows(t *testing.T) {
	var of []call
	for _, i := range []int{0, 1} {
		of = append(of, call{load, i, 0, 0}, call{store, i, 1, 0}, call{add, i, 1, 0}, call{swapped, i, 0, 1}, call{swapped, i, 1, 0},
			call{lock, i, 0, 0}, call{lock, i, 1, 0}, call{lock, i, -1, 0}, call{unlock, i, 0, 0}, call{unlock, i, 1, 0}, call{unlock, i, -1, 0}, call{owner, i, 0, 0})
	}
	row := make([]call, 4)
	var fill func(n int)
	fill = func(n int) {
		if n < len(row) {
			for _, x := range of {
				row[n] = x
				fill(n + 1)
			}
			return
		}
		c, b := New(1, 1), newBook(1, 1)
		for _, x := range row {
			if got, want := ask(c, x), b.tell(x); got != want {
				t.Fatalf("%+v: %+v: %d, not %d", row, x, got, want)
			}
		}
		if c.Owner(0) != b.tell(call{kind: owner}) || c.Shared() != b.shared || c.Load(0) != b.held[0] {
			t.Fatalf("%+v", row)
		}
	}
	fill(0)
}

// P2, R4: long rows of calls, held against a book, and told alike twice.
func TestLongRows(t *testing.T) {
	seed := uint64(1)
	next := func(n int) int {
		seed = seed*6364136223846793005 + 1442695040888963407
		return int(seed >> 33 % uint64(n))
	}
	for _, e := range edges {
		c, d, b := New(e.cells, e.locks), New(e.cells, e.locks), newBook(e.cells, e.locks)
		for range 5000 {
			// Few places and few values: so what was asked for is found often.
			x := call{next(kinds), next(6) - 1, next(5) - 1, next(5) - 1}
			if next(10) == 0 {
				x.i, x.a = numbers[next(len(numbers))], numbers[next(len(numbers))]
			}
			if again := ask(d, x); again != ask(c, x) || again != b.tell(x) {
				t.Fatalf("%v: %+v: %d", e, x, again)
			}
		}
		holdAll(t, c, b)
	}
}

// P2: a lock has one owner at most: of all who ask for it one is told true, till that one frees it.
func TestOneOwner(t *testing.T) {
	c := New(0, 1)
	for first := range 20 {
		took := []int{}
		for k := range 20 {
			if who := (first + k) % 20; c.Lock(0, who) {
				took = append(took, who)
			}
		}
		if !slices.Equal(took, []int{first}) || c.Owner(0) != first {
			t.Fatal(first, took)
		}
		freed := []int{}
		for who := range 20 {
			if c.Unlock(0, who) {
				freed = append(freed, who)
			}
		}
		if !slices.Equal(freed, []int{first}) || c.Owner(0) != -1 {
			t.Fatal(first, freed)
		}
	}
}

// P2: the counter is atomic: goroutines that each keep to a cell and a lock of their own lose none of its counts.
func TestManyCount(t *testing.T) {
	const many, rounds = 16, 5000
	c := New(many, many)
	var all sync.WaitGroup
	for i := range many {
		all.Go(func() {
			for range rounds {
				c.Add(i, 1)
				c.Lock(i, i)
				c.Load(-1)
				c.Unlock(i, i)
				c.Owner(i)
			}
		})
	}
	all.Wait()
	if c.Shared() != 3*many*rounds {
		t.Errorf("shared %d, not %d", c.Shared(), 3*many*rounds)
	}
	for i := range many {
		if c.Load(i) != rounds || c.Owner(i) != -1 {
			t.Errorf("%d: %d, %d", i, c.Load(i), c.Owner(i))
		}
	}
}

// P1, P2: whatever rows of calls there are.
func FuzzCells(f *testing.F) {
	f.Add(1, 1, "\x02\x00\x05\x00\x04\x00\x03\x00\x04\x00\x04\x00")
	f.Add(-1, 2000, "\x04\xff\x01\x00\x05\xff\x01\x00")
	f.Add(math.MaxInt, math.MinInt, "\x01\x01\x80\x00\x03\x01\x80\x7f")
	f.Fuzz(func(t *testing.T, cells, locks int, s string) {
		c, b := New(cells, locks), newBook(min(max(cells, 0), 1024), min(max(locks, 0), 1024))
		for ; len(s) >= 4; s = s[4:] {
			hold(t, c, b, call{int(s[0]) % kinds, int(int8(s[1])), int(int8(s[2])) << (s[0] & 56), int(int8(s[3])) << (s[0] & 56)})
		}
		holdAll(t, c, b)
	})
}
