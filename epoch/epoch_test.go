package epoch

import (
	"math"
	"slices"
	"testing"

	"gangplank/api"
)

// numbers is slots, epochs and pins at which something might go wrong.
var numbers = []int{math.MinInt, math.MinInt + 1, -1 << 32, -1 << 31, -9, -8, -7, -2, -1, 0, 1, 2, 3, 6, 7, 8, 9, 255, 256, 1 << 31, 1 << 32, 1<<32 + 1, math.MaxInt - 1, math.MaxInt}

// sizes is numbers of slots that are asked for, and how many there are then.
var sizes = []struct{ n, want int }{
	{math.MinInt, 0}, {math.MinInt + 1, 0}, {-1 << 32, 0}, {-9, 0}, {-8, 0}, {-2, 0}, {-1, 0}, {0, 0}, {1, 1}, {2, 2}, {3, 3}, {4, 4}, {5, 5}, {6, 6}, {7, 7},
	{8, 8}, {9, 8}, {10, 8}, {16, 8}, {99, 8}, {255, 8}, {256, 8}, {257, 8}, {1 << 31, 8}, {1 << 32, 8}, {1<<32 + 1, 8}, {math.MaxInt - 1, 8}, {math.MaxInt, 8},
}

// book is a keeper by the chapter's own sentences: a slot of it that stands in none of the two maps is free.
type book struct {
	n     int
	owned map[int]bool
	over  map[int]int
}

// newBook is a book of so many slots.
func newBook(n int) *book { return &book{n: n, owned: map[int]bool{}, over: map[int]int{}} }

// call is one of a keeper's calls, of whatever it needs of these.
type call struct {
	kind, slot, at int
	pins           []int
}

// The kinds of calls.
const (
	take = iota
	retire
	ripe
	freed
	asked
	kinds
)

// yes is a bool as a number.
func yes(b bool) int {
	if b {
		return 1
	}
	return 0
}

// tell is what a book tells of a call.
func (b *book) tell(x call) int {
	switch x.kind {
	case take:
		for slot := range b.n {
			if b.state(slot) == 0 {
				b.owned[slot] = true
				return slot
			}
		}
		return -1
	case retire:
		if !b.owned[x.slot] {
			return 0
		}
		delete(b.owned, x.slot)
		b.over[x.slot] = x.at
		return 1
	case ripe:
		return b.ripe(x.pins)
	case freed:
		over := b.state(x.slot) == 2
		delete(b.over, x.slot)
		return yes(over)
	}
	return b.state(x.slot)
}

// state is what a book tells of a slot.
func (b *book) state(slot int) int {
	_, over := b.over[slot]
	switch {
	case slot < 0 || slot >= b.n:
		return -1
	case over:
		return 2
	}
	return yes(b.owned[slot])
}

// ripe is the least of all slots of a book that are ripe.
func (b *book) ripe(pins []int) int {
	least := -1
	for slot, at := range b.over {
		if !slices.ContainsFunc(pins, func(pin int) bool { return pin != 0 && !(pin > at) }) && (least < 0 || slot < least) {
			least = slot
		}
	}
	return least
}

// ask is what a keeper tells of a call.
func ask(k *Keeper, x call) int {
	switch x.kind {
	case take:
		return k.Take()
	case retire:
		return yes(k.Retire(x.slot, x.at))
	case ripe:
		return k.Ripe(x.pins)
	case freed:
		return yes(k.Free(x.slot))
	}
	return k.State(x.slot)
}

// hold holds what a keeper tells of a call against what a book tells.
func hold(t *testing.T, k *Keeper, b *book, x call) {
	t.Helper()
	if got, want := ask(k, x), b.tell(x); got != want {
		t.Fatalf("%+v: %d, not %d", x, got, want)
	}
}

// holdAll holds all that a keeper tells without a change against what a book says.
func holdAll(t *testing.T, k *Keeper, b *book) {
	t.Helper()
	for slot := -1; slot <= b.n+1; slot++ {
		hold(t, k, b, call{kind: asked, slot: slot})
	}
	hold(t, k, b, call{kind: ripe})
	for pin := -2; pin < 10; pin++ {
		hold(t, k, b, call{kind: ripe, pins: []int{pin}})
	}
}

// want fails, if something is not so.
func want(t *testing.T, name string, so bool) {
	t.Helper()
	if !so {
		t.Error(name)
	}
}

// states is what all slots are, and the one behind them.
func states(k *Keeper, n int) []int {
	var all []int
	for slot := range n + 1 {
		all = append(all, k.State(slot))
	}
	return all
}

// allTaken is a keeper of n slots, all taken.
func allTaken(n int) *Keeper {
	k := New(n)
	for range n {
		k.Take()
	}
	return k
}

// retiredAt is a keeper of slots, each retired at one of these epochs.
func retiredAt(epochs ...int) *Keeper {
	k := allTaken(len(epochs))
	for slot, at := range epochs {
		k.Retire(slot, at)
	}
	return k
}

// P2: the chapter's examples.
func TestExamples(t *testing.T) {
	k := New(2)
	want(t, "Take 0", k.Take() == 0)
	want(t, "Retire of 0 at 5", k.Retire(0, 5))
	want(t, "Ripe of pins 0, 5: -1", k.Ripe([]int{0, 5}) == -1)
	want(t, "of 0, 6: 0", k.Ripe([]int{0, 6}) == 0)
}

// P1, P2: New of all numbers; all slots are free at first, so none is retired, freed or ripe.
func TestNew(t *testing.T) {
	for _, x := range sizes {
		k := New(x.n)
		for slot := range x.want {
			if k.State(slot) != 0 || k.Retire(slot, 0) || k.Free(slot) || k.State(slot) != 0 {
				t.Errorf("%d: %d", x.n, slot)
			}
		}
		if k.State(-1) != -1 || k.State(x.want) != -1 || k.Ripe(nil) != -1 || k.Ripe([]int{0, 5}) != -1 {
			t.Errorf("%d: more", x.n)
		}
		for slot := range x.want {
			if got := k.Take(); got != slot {
				t.Errorf("%d: took %d, not %d", x.n, got, slot)
			}
		}
		if k.Take() != -1 || k.Take() != -1 || k.State(x.want) != -1 {
			t.Errorf("%d: took more", x.n)
		}
	}
}

// P2: there are as many slots as api's limit says.
func TestMost(t *testing.T) {
	k := New(api.MaxSlots + 1)
	want(t, "the last one", k.State(api.MaxSlots-1) == 0)
	want(t, "the one behind it", k.State(api.MaxSlots) == -1)
}

// P2: Take tells the lowest free slot, whichever are free; the others stay as they are.
func TestTake(t *testing.T) {
	for n := range 9 {
		// Each of the choices says of each slot whether it is free (0), taken (1) or retired (2): by the digits of base 3.
		choices := 1
		for range n {
			choices *= 3
		}
		for choice := range choices {
			k, first, all := allTaken(n), -1, []int{}
			for slot, rest := 0, choice; slot < n; slot, rest = slot+1, rest/3 {
				if rest%3 != 1 {
					k.Retire(slot, slot)
				}
				if rest%3 == 0 {
					k.Free(slot)
				}
				if rest%3 == 0 && first < 0 {
					first = slot
				}
				all = append(all, rest%3)
			}
			if got := k.Take(); got != first {
				t.Fatalf("%v: %d, not %d", all, got, first)
			}
			if first >= 0 {
				all[first] = 1
			}
			if !slices.Equal(states(k, n), append(all, -1)) {
				t.Fatalf("%v: %v", all, states(k, n))
			}
		}
	}
}

// P2: Take at the edges that have names.
func TestTakeEdges(t *testing.T) {
	k := New(3)
	want(t, "all free", k.Take() == 0)
	want(t, "the lowest one is taken", k.Take() == 1)
	want(t, "the last one", k.Take() == 2)
	want(t, "none is free", k.Take() == -1 && k.Take() == -1)
	k.Retire(1, 4)
	want(t, "a retired one is not free", k.Take() == -1 && k.State(1) == 2)
	k.Free(1)
	want(t, "one in the middle was freed", k.Take() == 1)
	k.Retire(0, 4)
	k.Retire(2, 4)
	want(t, "the lowest one is retired", k.Free(2) && k.Take() == 2 && k.State(0) == 2)
	want(t, "no slots", New(0).Take() == -1 && New(-1).Take() == -1)
	var zero Keeper
	want(t, "a keeper that New did not make", zero.Take() == -1 && zero.State(0) == -1 && zero.Ripe(nil) == -1)
}

// P2: Retire of a free slot, of a taken one, and of a retired one, at all epochs.
func TestRetire(t *testing.T) {
	for _, at := range numbers {
		k := New(3)
		if k.Retire(1, at) || k.State(1) != 0 {
			t.Errorf("%d: free", at)
		}
		k.Take()
		if k.Retire(1, at) || !k.Retire(0, at) || !slices.Equal(states(k, 3), []int{2, 0, 0, -1}) {
			t.Errorf("%d: taken", at)
		}
		for _, other := range numbers {
			if k.Retire(0, other) || k.State(0) != 2 {
				t.Errorf("%d: again at %d", at, other)
			}
		}
		// It is still retired at the epoch at which it was retired first.
		for _, pin := range numbers {
			ripe := -1
			if pin == 0 || pin > at {
				ripe = 0
			}
			if got := k.Ripe([]int{pin}); got != ripe {
				t.Errorf("%d: pin %d: %d", at, pin, got)
			}
		}
	}
}

// P2: of a slot that there is not Retire and Free tell false, and State -1; nothing is changed.
func TestNoSuchSlot(t *testing.T) {
	for n := range 9 {
		for _, k := range []*Keeper{New(n), allTaken(n), retiredAt(make([]int, n)...)} {
			before := states(k, n)
			for _, slot := range append([]int{n, n + 1}, numbers...) {
				if slot >= 0 && slot < n {
					continue
				}
				for _, at := range numbers {
					if k.Retire(slot, at) || k.Free(slot) || k.Retire(slot, at) || k.State(slot) != -1 {
						t.Fatal(n, slot, at)
					}
				}
			}
			if !slices.Equal(states(k, n), before) {
				t.Errorf("%v: %v", before, states(k, n))
			}
		}
	}
}

// P2: Ripe is the lowest retired slot of which each pin that is not 0 is above its epoch.
func TestRipe(t *testing.T) {
	some := New(4)
	some.Take()
	some.Take()
	some.Retire(1, 3)
	for i, x := range []struct {
		k    *Keeper
		pins []int
		want int
	}{
		{New(0), nil, -1}, {New(0), []int{0, 9}, -1}, {New(3), nil, -1}, {allTaken(3), nil, -1}, {allTaken(3), []int{0, 9}, -1},
		{some, nil, 1}, {some, []int{4, 0}, 1}, {some, []int{3}, -1},
		{retiredAt(5), nil, 0}, {retiredAt(5), []int{}, 0}, {retiredAt(5), []int{0}, 0}, {retiredAt(5), []int{0, 0, 0}, 0},
		{retiredAt(5), []int{5}, -1}, {retiredAt(5), []int{4}, -1}, {retiredAt(5), []int{6}, 0}, {retiredAt(5), []int{1}, -1}, {retiredAt(5), []int{7}, 0},
		{retiredAt(5), []int{-1}, -1}, {retiredAt(5), []int{math.MinInt}, -1}, {retiredAt(5), []int{math.MaxInt}, 0}, {retiredAt(5), []int{6, -1}, -1},
		{retiredAt(0), []int{0}, 0}, {retiredAt(0), []int{1}, 0}, {retiredAt(0), []int{-1}, -1},
		{retiredAt(-5), []int{-4}, 0}, {retiredAt(-5), []int{-5}, -1}, {retiredAt(-5), []int{-6}, -1}, {retiredAt(-5), []int{0, 1}, 0},
		{retiredAt(math.MaxInt), []int{math.MaxInt}, -1}, {retiredAt(math.MaxInt), []int{math.MinInt}, -1}, {retiredAt(math.MaxInt), []int{0}, 0},
		{retiredAt(math.MaxInt), []int{math.MaxInt - 1}, -1}, {retiredAt(math.MaxInt), []int{1}, -1}, {retiredAt(math.MaxInt - 1), []int{math.MaxInt}, 0},
		{retiredAt(math.MinInt), []int{math.MinInt}, -1}, {retiredAt(math.MinInt), []int{math.MinInt + 1}, 0}, {retiredAt(math.MinInt), []int{math.MaxInt}, 0},
		// Where several are retired, the lowest one that is ripe is told, not the one that was retired first.
		{retiredAt(9, 5, 2), []int{10}, 0}, {retiredAt(9, 5, 2), []int{9}, 1}, {retiredAt(9, 5, 2), []int{6}, 1}, {retiredAt(9, 5, 2), []int{5}, 2},
		{retiredAt(9, 5, 2), []int{3}, 2}, {retiredAt(9, 5, 2), []int{2}, -1}, {retiredAt(9, 5, 2), nil, 0}, {retiredAt(9, 5, 2), []int{12, 3}, 2},
		{retiredAt(2, 5, 9), []int{3}, 0}, {retiredAt(2, 5, 9), []int{10}, 0}, {retiredAt(5, 5, 5), []int{6}, 0}, {retiredAt(5, 5, 5), []int{5}, -1},
		{retiredAt(9, 9, 9, 9, 9, 9, 9, 1), []int{2}, 7}, {retiredAt(9, 9, 9, 9, 9, 9, 9, 9), []int{2}, -1}, {retiredAt(9, 9, 9, 1, 9, 9, 1, 9), []int{9, 0}, 3},
	} {
		if got := x.k.Ripe(x.pins); got != x.want {
			t.Errorf("%d: %v: %d, not %d", i, x.pins, got, x.want)
		}
	}
}

// P2: of all epochs and pins: a pin bars a slot, if it is neither 0 nor above the slot's epoch.
func TestRipeOfAllNumbers(t *testing.T) {
	for _, at := range numbers {
		for _, pin := range numbers {
			for _, other := range numbers {
				least := -1
				if (pin == 0 || pin > at) && (other == 0 || other > at) {
					least = 0
				}
				if got := retiredAt(at).Ripe([]int{pin, other}); got != least {
					t.Fatal(at, pin, other, got)
				}
			}
		}
	}
}

// P2: one pin alone that is not above the epoch bars a slot, wherever it stands.
func TestOnePin(t *testing.T) {
	for n := range 66 {
		for _, above := range []int{0, 6, 7, math.MaxInt} {
			pins := slices.Repeat([]int{above}, n)
			if retiredAt(5).Ripe(pins) != 0 {
				t.Fatal(n, above)
			}
			for at := range pins {
				for _, pin := range []int{5, 4, 1, -1, math.MinInt} {
					pins[at] = pin
					if retiredAt(5).Ripe(pins) != -1 || retiredAt(5, 0).Ripe(pins) != []int{-1, 1}[yes(pin > 0)] {
						t.Fatal(n, above, at, pin)
					}
				}
				pins[at] = above
			}
		}
	}
}

// P2, R3, R4: Ripe changes nothing, neither a slot nor its pins, and keeps no pins: it tells the same again.
func TestRipeChangesNothing(t *testing.T) {
	k := New(5)
	for range 4 {
		k.Take()
	}
	k.Retire(0, 9)
	k.Retire(2, 5)
	k.Retire(3, 5)
	for range 3 {
		pins := []int{0, 7, 6, 0}
		want(t, "the lowest one that is ripe", k.Ripe(pins) == 2 && k.Ripe(pins) == 2)
		want(t, "its pins", slices.Equal(pins, []int{0, 7, 6, 0}))
		pins[2] = 5
		want(t, "other pins", k.Ripe(pins) == -1 && k.Ripe(nil) == 0)
		want(t, "the slots", slices.Equal(states(k, 5), []int{2, 1, 2, 2, 0, -1}))
	}
	want(t, "none that is ripe is free", k.Take() == 4 && k.Take() == -1)
}

// P2: Free of a free slot, of a taken one, of a retired one, and once more; the others stay as they are.
func TestFree(t *testing.T) {
	for _, at := range numbers {
		k := New(3)
		k.Take()
		k.Take()
		if k.Free(2) || k.Free(0) || k.Free(1) || !slices.Equal(states(k, 3), []int{1, 1, 0, -1}) {
			t.Errorf("%d: not retired", at)
		}
		k.Retire(1, at)
		if k.Free(0) || !k.Free(1) || k.Free(1) || !slices.Equal(states(k, 3), []int{1, 0, 0, -1}) {
			t.Errorf("%d: retired", at)
		}
		if k.Ripe(nil) != -1 || k.Retire(1, at) || k.Take() != 1 || k.Free(1) || k.Take() != 2 {
			t.Errorf("%d: behind it", at)
		}
	}
	// Whether it is ripe is not asked.
	k := retiredAt(5)
	want(t, "not ripe", k.Ripe([]int{1}) == -1 && k.Free(0) && k.State(0) == 0)
}

// P2: State of each of the three, of one below 0, and of the one behind the last one; it changes nothing.
func TestState(t *testing.T) {
	k := New(3)
	k.Take()
	k.Take()
	k.Retire(1, -1)
	for range 3 {
		for _, x := range []struct{ slot, want int }{{0, 1}, {1, 2}, {2, 0}, {-1, -1}, {3, -1}, {4, -1}, {7, -1}, {8, -1}, {math.MinInt, -1}, {math.MaxInt, -1}} {
			if got := k.State(x.slot); got != x.want {
				t.Errorf("%d: %d, not %d", x.slot, got, x.want)
			}
		}
	}
}

// P2: a slot that was freed is as it was at first: it is taken again, and retired at another epoch, of which alone is known then.
func TestAgain(t *testing.T) {
	for _, first := range numbers {
		for _, then := range numbers {
			k := New(1)
			if k.Take() != 0 || !k.Retire(0, first) || !k.Free(0) || k.Take() != 0 {
				t.Fatal(first, then)
			}
			if k.State(0) != 1 || k.Ripe(nil) != -1 || k.Free(0) || k.Take() != -1 {
				t.Fatal("taken again", first, then)
			}
			if !k.Retire(0, then) || k.Retire(0, first) || k.State(0) != 2 {
				t.Fatal("retired again", first, then)
			}
			for _, pin := range numbers {
				if (k.Ripe([]int{pin}) == 0) != (pin == 0 || pin > then) {
					t.Fatal(first, then, pin)
				}
			}
		}
	}
}

// P2: two keepers do not disturb one another, also of the same numbers.
func TestTwo(t *testing.T) {
	for _, n := range []int{1, 3, 8} {
		c, d := New(n), New(n)
		for slot := range n {
			c.Take()
			c.Retire(slot, slot)
		}
		want(t, "nothing of the other one is taken", slices.Equal(states(d, n), append(make([]int, n), -1)) && d.Ripe(nil) == -1)
		want(t, "nothing of the other one is freed", !d.Free(0) && c.State(0) == 2)
		want(t, "the other one is taken from the first slot on", d.Take() == 0 && c.Take() == -1)
		want(t, "retired at another epoch", d.Retire(0, 9) && c.Ripe([]int{1}) == 0 && d.Ripe([]int{1}) == -1 && d.Ripe([]int{10}) == 0)
		want(t, "freed", c.Free(0) && d.State(0) == 2 && d.Take() == []int{1, -1}[yes(n == 1)])
	}
}

// P2: a slot is taken by one at a time: no Take tells one that another Take told, till it was freed.
func TestTakenByOne(t *testing.T) {
	next := chance(3)
	for n := range 9 {
		k, owned, over := New(n), map[int]bool{}, map[int]bool{}
		for step := range 2000 {
			switch slot := next(n + 1); next(3) {
			case 0:
				got := k.Take()
				if owned[got] || over[got] || (got < 0) != (len(owned)+len(over) == n) || got >= n {
					t.Fatal(n, step, got)
				}
				if got >= 0 {
					owned[got] = true
				}
			case 1:
				if k.Retire(slot, step) {
					delete(owned, slot)
					over[slot] = true
				}
			case 2:
				if k.Free(slot) {
					delete(over, slot)
				}
			}
		}
	}
}

// P1: no call panics, at all these arguments; each tells what the chapter's sentences tell.
func TestAllArguments(t *testing.T) {
	for _, x := range sizes {
		k, b := New(x.n), newBook(x.want)
		for _, at := range numbers {
			for _, slot := range append([]int{x.want - 1, x.want, x.want + 1}, numbers...) {
				for _, pin := range numbers {
					for _, y := range []call{
						{take, 0, 0, nil}, {freed, slot, 0, nil}, {retire, slot, at, nil}, {asked, slot, 0, nil},
						{ripe, 0, 0, nil}, {ripe, 0, 0, []int{pin}}, {ripe, 0, 0, []int{0, pin, at}},
					} {
						hold(t, k, b, y)
					}
				}
				hold(t, k, b, call{freed, slot, 0, nil})
			}
			holdAll(t, k, b)
		}
	}
}

// P2: all rows of five calls, of one slot and of two.
func TestAllShortRows(t *testing.T) {
	of := []call{
		{take, 0, 0, nil}, {freed, 0, 0, nil}, {freed, 1, 0, nil}, {retire, 0, 0, nil}, {retire, 0, 1, nil}, {retire, 1, 0, nil}, {retire, 1, 1, nil},
		{ripe, 0, 0, nil}, {ripe, 0, 0, []int{0, 1}}, {ripe, 0, 0, []int{2, 0}},
	}
	for n := range 3 {
		row := make([]call, 5)
		var fill func(at int)
		fill = func(at int) {
			if at < len(row) {
				for _, x := range of {
					row[at] = x
					fill(at + 1)
				}
				return
			}
			k, b := New(n), newBook(n)
			for _, x := range row {
				if got, want := ask(k, x), b.tell(x); got != want {
					t.Fatalf("%d: %+v: %+v: %d, not %d", n, row, x, got, want)
				}
			}
			if k.State(0) != b.state(0) || k.State(1) != b.state(1) || k.State(2) != -1 || k.Ripe([]int{1}) != b.ripe([]int{1}) {
				t.Fatalf("%d: %+v", n, row)
			}
		}
		fill(0)
	}
}

// chance is a function that tells numbers from 0 on that are below another one, the same ones each time.
func chance(seed uint64) func(int) int {
	return func(n int) int {
		seed = seed*6364136223846793005 + 1442695040888963407
		return int(seed >> 33 % uint64(n))
	}
}

// P2, R4: long rows of calls, held against a book, and told alike twice.
func TestLongRows(t *testing.T) {
	next := chance(1)
	for _, size := range sizes {
		k, again, b := New(size.n), New(size.n), newBook(size.want)
		for range 3000 {
			// Few slots and few epochs: so what is asked for is found often.
			x := call{kind: next(kinds), slot: next(size.want+2) - 1, at: next(7) - 2}
			if next(10) == 0 {
				x.slot, x.at = numbers[next(len(numbers))], numbers[next(len(numbers))]
			}
			for range next(4) {
				x.pins = append(x.pins, next(9)-2)
			}
			if got := ask(k, x); got != ask(again, x) || got != b.tell(x) {
				t.Fatalf("%d: %+v: %d", size.n, x, got)
			}
		}
		holdAll(t, k, b)
	}
}

// desk is what readers and a writer share, who lean on a keeper: which slot is current, and what was written into each.
type desk struct {
	k       *Keeper
	epoch   int
	current int
	pins    []int
	wrote   []int
}

// reader is one who reads the current slot, a step at a time, and what was written into it as it was picked.
type reader struct{ who, stage, epoch, slot, wrote int }

// step goes on reading, and tells false, if what was read is not what was picked.
func (r *reader) step(d *desk) bool {
	switch r.stage {
	case 0:
		r.epoch = d.epoch
	case 1:
		d.pins[r.who] = r.epoch + 1
	case 2:
		if d.epoch != r.epoch {
			r.epoch, r.stage = d.epoch, 0
		}
	case 3:
		r.slot = d.current
		r.wrote = d.wrote[r.slot]
	case 4, 5, 6:
		if d.k.State(r.slot) < 1 || d.wrote[r.slot] != r.wrote {
			return false
		}
	case 7:
		d.pins[r.who] = 0
	}
	r.stage = (r.stage + 1) % 8
	return true
}

// writer is one who writes into slots, and makes them current, a step at a time.
type writer struct {
	stage, slot, old, writes int
	pins                     []int
}

// step goes on writing. The pins are looked at one by one: others may change them in between.
func (w *writer) step(d *desk) {
	switch n := len(d.pins); {
	case w.stage < n:
		w.pins = append(w.pins[:w.stage], d.pins[w.stage])
	case w.stage == n:
		if ripe := d.k.Ripe(w.pins); ripe >= 0 {
			d.k.Free(ripe)
			d.wrote[ripe] = -1
			return
		}
		if w.slot = d.k.Take(); w.slot < 0 {
			w.stage = 0
			return
		}
	case w.stage == n+1:
		w.writes++
		d.wrote[w.slot] = w.writes
	case w.stage == n+2:
		w.old, d.current = d.current, w.slot
	default:
		d.epoch++
		d.k.Retire(w.old, d.epoch)
		w.stage = -1
	}
	w.stage++
}

// P2 (what P5's slots lean on): who pins the epoch ahead of reading finds in the current slot what was written there, whoever goes on in between.
func TestReaders(t *testing.T) {
	next := chance(7)
	for slots := 2; slots < 9; slots++ {
		for readers := 1; readers < 6; readers++ {
			d := &desk{k: New(slots), pins: make([]int, readers), wrote: make([]int, slots)}
			d.current = d.k.Take()
			w, all := writer{}, make([]reader, readers)
			for i := range all {
				all[i].who = i
			}
			for step := range 5000 {
				who := next(2 * readers)
				if who >= readers {
					w.step(d)
				} else if !all[who].step(d) {
					t.Fatalf("%d slots, %d readers: step %d: %+v of %+v", slots, readers, step, all[who], *d)
				}
			}
			if w.writes < 20 {
				t.Errorf("%d slots, %d readers: stuck behind %d writes", slots, readers, w.writes)
			}
		}
	}
}

// P1, P2: whatever rows of calls there are.
func FuzzEpoch(f *testing.F) {
	f.Add(2, "\x00\x00\x00\x01\x00\x05\x02\x00\x05\x02\x00\x06\x03\x00\x00")
	f.Add(-1, "\x00\x00\x00\x04\xff\x00")
	f.Add(math.MaxInt, "\x00\x00\x00\x3e\x00\x40\x3c\x00\x40")
	f.Fuzz(func(t *testing.T, n int, s string) {
		k, b := New(n), newBook(min(max(n, 0), 8))
		for ; len(s) >= 3; s = s[3:] {
			kind, slot, at := int(s[0])%kinds, int(int8(s[1])), int(int8(s[2]))
			if s[0] >= 128 {
				slot, at = slot<<57, at<<57
			}
			hold(t, k, b, call{kind, slot, at, []int{slot, at}[:1+len(s)%2]})
			hold(t, k, b, call{kind, slot, at, []int{at}})
		}
		holdAll(t, k, b)
	})
}
