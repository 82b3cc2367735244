package world

import (
	"math"
	"slices"
	"testing"

	"gangplank/api"
)

// numbers is numbers at which something might go wrong.
var numbers = []int{
	math.MinInt, math.MinInt + 1, -1 << 32, -1000000001, -1000000000, -1000001, -1000000, -999999, -65, -64, -3, -2, -1, 0, 1, 2, 3, 4, 5, 7, 8, 9, 15, 16, 17,
	63, 64, 65, 66, 67, 255, 256, 1023, 1024, 1025, 65536, 999998, 999999, 1000000, 1000001, 1000002, 999999999, 1000000000, 1000000001, 1 << 31, 1 << 32, 1<<32 + 1,
	math.MaxInt - 1000001, math.MaxInt - 1000000, math.MaxInt - 1, math.MaxInt,
}

// fields is each field of a config, and its lowest and its greatest number.
var fields = []struct {
	name      string
	low, high int
	of        func(c *api.Config) *int
}{
	{"Workers", 1, 64, func(c *api.Config) *int { return &c.Workers }},
	{"Shards", 1, 16, func(c *api.Config) *int { return &c.Shards }},
	{"Capacity", 1, 64, func(c *api.Config) *int { return &c.Capacity }},
	{"Idle", 0, 1000000, func(c *api.Config) *int { return &c.Idle }},
	{"Slots", 2, 8, func(c *api.Config) *int { return &c.Slots }},
}

// edges is configs that may be, all at their edges, and some between.
func edges() []api.Config {
	all := []api.Config{config(), {Workers: 1, Shards: 2, Capacity: 3, Idle: 0, Slots: 2}, {Workers: 33, Shards: 7, Capacity: 21, Idle: 500000, Slots: 5}}
	for bits := range 1 << len(fields) {
		var c api.Config
		for i, f := range fields {
			*f.of(&c) = []int{f.low, f.high}[bits>>i&1]
		}
		all = append(all, c)
	}
	return all
}

// config is a config that may be, of which each field has a number of its own.
func config() api.Config {
	return api.Config{Workers: 3, Shards: 5, Capacity: 10, Idle: 77, Slots: 4}
}

// made is a world.
func made(t testing.TB, c api.Config) *World {
	t.Helper()
	w, err := New(c)
	if err != api.OK || w == nil {
		t.Fatalf("%+v: %v", c, err)
	}
	return w
}

// want fails, if something is not so.
func want(t *testing.T, name string, so bool) {
	t.Helper()
	if !so {
		t.Error(name)
	}
}

// tomb is a Tomb in which nothing else stands, free an Empty entry.
var tomb, free = api.Entry{State: 2}, api.Entry{}

// flow is a Live entry.
func flow(key string) api.Entry {
	return api.Entry{State: 1, Key: key, Backend: 7, Deadline: 9}
}

// on is a row of entries.
func on(entries ...api.Entry) []api.Entry { return entries }

// backends is a pool that may be, of as many backends.
func backends(n int) []api.Backend {
	var p []api.Backend
	for i := range n {
		p = append(p, api.Backend{Id: 10 + i, Weight: i%16 + 1})
	}
	return p
}

// chance is numbers from 0 on, below n, all over: the same for the same seed.
func chance(seed uint64) func(n int) int {
	return func(n int) int {
		seed = seed*6364136223846793005 + 1442695040888963407
		return int(seed >> 33 % uint64(n))
	}
}

// far is how far behind the last cell, lock and slot, and ahead of the first one, it is asked whether there is one more.
const far = 3

// book is a world by the chapter's own sentences: each cell by its number, each lock's owner, what each slot and each slot's keeper tells, all tables, all places, and the time.
type book struct {
	c      api.Config
	cells  []int
	owners []int
	sizes  []int
	states []int
	tables [][]api.Entry
	places []int
	now    int
}

// unready is the size of a slot that is not ready.
const unready = -1

// newBook is the book of a new world.
func newBook(c api.Config) *book {
	k := &book{c: c, cells: make([]int, 1+1+c.Workers), states: make([]int, c.Slots), places: make([]int, c.Shards)}
	for range c.Slots {
		k.sizes = append(k.sizes, unready)
	}
	for range c.Shards {
		k.owners = append(k.owners, -1)
		k.tables = append(k.tables, make([]api.Entry, c.Capacity))
	}
	return k
}

// tick is what Tick does.
func (k *book) tick(d int) {
	switch {
	case d < 0, d > 1000000, k.now+d > 1000000000:
	default:
		k.now += d
	}
}

// pin is what Pin tells.
func (k *book) pin(who int) int {
	for i := 1; i <= k.c.Workers; i++ {
		if i == who {
			return 1 + i
		}
	}
	return -1
}

// live is what Live tells.
func (k *book) live() []string {
	var keys []string
	for i := range k.tables {
		for j := range k.tables[i] {
			if e := k.tables[i][j]; e.State == 1 {
				keys = append(keys, e.Key)
			}
		}
	}
	return keys
}

// hold holds all that there is of a world against a book, and that looking at it changes nothing.
func hold(t *testing.T, name string, w *World, k *book) {
	t.Helper()
	if w.Config != k.c || w.Now != k.now || !slices.Equal(w.Places, k.places) {
		t.Fatalf("%s: %+v at %d, places %v, not %+v at %d, %v", name, w.Config, w.Now, w.Places, k.c, k.now, k.places)
	}
	holdCells(t, name, w, k)
	holdSlots(t, name, w, k)
	if !slices.EqualFunc(w.Tables, k.tables, slices.Equal[[]api.Entry]) {
		t.Fatalf("%s: tables %v, not %v", name, w.Tables, k.tables)
	}
	shared := w.Cells.Shared()
	for range 2 {
		if live := w.Live(); !slices.Equal(live, k.live()) {
			t.Fatalf("%s: flows %v, not %v", name, live, k.live())
		}
		if owners := w.Owners(); !slices.Equal(owners, k.owners) {
			t.Fatalf("%s: owners %v, not %v", name, owners, k.owners)
		}
		for who := -far; who <= k.c.Workers+far; who++ {
			if at := w.Pin(who); at != k.pin(who) {
				t.Fatalf("%s: pin of %d: %d, not %d", name, who, at, k.pin(who))
			}
		}
	}
	want(t, name+": looking is no call of a cell", w.Cells.Shared() == shared)
}

// holdCells holds cells and locks against a book: how many there are is seen by what is counted.
func holdCells(t *testing.T, name string, w *World, k *book) {
	t.Helper()
	for i := -far; i < len(k.cells)+far; i++ {
		there, was, holds := i >= 0 && i < len(k.cells), w.Cells.Shared(), 0
		if there {
			holds = k.cells[i]
		}
		if v := w.Cells.Load(i); v != holds || (w.Cells.Shared() == was+1) != there {
			t.Fatalf("%s: cell %d of %d: %d, not %d; there: %v", name, i, len(k.cells), v, holds, w.Cells.Shared() > was)
		}
	}
	for i := -far; i < len(k.owners)+far; i++ {
		there, was, owner := i >= 0 && i < len(k.owners), w.Cells.Shared(), -1
		if there {
			owner = k.owners[i]
		}
		// Whoever is nobody takes no lock: so this changes nothing, and is counted where there is a lock.
		took := w.Cells.Lock(i, -1)
		if took || w.Cells.Owner(i) != owner || (w.Cells.Shared() == was+1) != there {
			t.Fatalf("%s: lock %d of %d: %d, not %d; there: %v", name, i, len(k.owners), w.Cells.Owner(i), owner, w.Cells.Shared() > was)
		}
	}
}

// holdSlots holds slots and who keeps them against a book.
func holdSlots(t *testing.T, name string, w *World, k *book) {
	t.Helper()
	for i := -far; i < len(k.sizes)+far; i++ {
		size, ready, state := 0, false, -1
		if i >= 0 && i < len(k.sizes) {
			ready, state = k.sizes[i] != unready, k.states[i]
			if ready {
				size = k.sizes[i]
			}
		}
		if n, ok := w.Slots.Size(i); n != size || ok != ready {
			t.Fatalf("%s: slot %d of %d: %d, %v, not %d, %v", name, i, len(k.sizes), n, ok, size, ready)
		}
		if s := w.Keeper.State(i); s != state {
			t.Fatalf("%s: slot %d of %d is %d, not %d", name, i, len(k.sizes), s, state)
		}
	}
}

// spoil changes all that may be changed of a world, and of what stands in it.
func spoil(w *World) {
	w.Tick(1000)
	for i := range 100 {
		w.Cells.Store(i, 1000+i)
		w.Cells.Lock(i, i)
		w.Slots.Begin(i)
		w.Slots.Fill(i, backends(i+1))
	}
	for w.Keeper.Take() >= 0 {
		w.Keeper.Retire(0, 5)
	}
	for i, t := range w.Tables {
		for j := range t {
			t[j] = flow("spoilt")
		}
		w.Tables[i] = append(t, flow("more"))
		w.Places[i] = 99
	}
	w.Tables = append(w.Tables, on(flow("one table more")))
	w.Places = append(w.Places, 98)
	w.Config = api.Config{Workers: 9, Shards: 9, Capacity: 9, Idle: 9, Slots: 9}
}
