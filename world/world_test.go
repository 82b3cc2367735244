package world

import (
	"math"
	"slices"
	"strconv"
	"testing"

	"gangplank/api"
	"gangplank/cells"
	"gangplank/epoch"
	"gangplank/flows"
	"gangplank/model"
	"gangplank/slots"
)

// holdNew holds New of a config against model.Check of it, and against whether it may be.
func holdNew(t *testing.T, c api.Config, may bool) {
	t.Helper()
	was := c
	w, err := New(c)
	if err != model.Check(c) || (err == api.OK) != may || (w != nil) != may || !may && err != api.ErrArg || c != was {
		t.Fatalf("%+v: %v, a world: %v; model.Check %v", c, err, w != nil, model.Check(c))
	}
	if may && w.Config != c {
		t.Fatalf("%+v: %+v", c, w.Config)
	}
}

// P1, P2, Errors: New at each field's edges, one beyond each, and at numbers far off, whatever the other fields are.
func TestNewOfConfigs(t *testing.T) {
	for _, c := range edges() {
		holdNew(t, c, true)
		for _, f := range fields {
			for _, n := range append([]int{f.low - 1, f.low, f.low + 1, (f.low + f.high) / 2, f.high - 1, f.high, f.high + 1, -f.low, -f.high, 1<<32 + f.low, math.MinInt + f.low}, numbers...) {
				x := c
				*f.of(&x) = n
				holdNew(t, x, n >= f.low && n <= f.high)
			}
		}
	}
}

// P1, P2, Errors: one fault is enough, and so are two of any fields, and one in each.
func TestNewOfFaults(t *testing.T) {
	for _, f := range fields {
		for _, g := range fields {
			for _, n := range []int{f.low - 1, f.high + 1, math.MinInt, math.MaxInt} {
				for _, k := range []int{g.low - 1, g.high + 1, math.MinInt, math.MaxInt} {
					c := config()
					*f.of(&c), *g.of(&c) = n, k
					holdNew(t, c, false)
				}
			}
		}
	}
	for _, n := range []int{math.MinInt, -1, 1000001, math.MaxInt} {
		holdNew(t, api.Config{Workers: n, Shards: n, Capacity: n, Idle: n, Slots: n}, false)
	}
	holdNew(t, api.Config{}, false)
}

// P2: the limits are api's.
func TestLimits(t *testing.T) {
	c := api.Config{Workers: api.MaxWorkers, Shards: api.MaxShards, Capacity: api.MaxCapacity, Idle: api.MaxIdle, Slots: api.MaxSlots}
	holdNew(t, c, true)
	hold(t, "the greatest", made(t, c), newBook(c))
}

// P2: the numbers of cells are the chapter's, and so are the fields, by their names and in their order.
func TestNames(t *testing.T) {
	want(t, "cells", Epoch == 0 && Current == 1 && Pins == 2)
	told := Told{true, false, false}
	want(t, "At", told.At && !told.Done && !told.Bad && told == Told{At: true})
	told = Told{false, true, false}
	want(t, "Done", !told.At && told.Done && !told.Bad && told == Told{Done: true})
	told = Told{false, false, true}
	want(t, "Bad", !told.At && !told.Done && told.Bad && told == Told{Bad: true})
	c, k := cells.New(3, 1), epoch.New(2)
	s, tables, places := slots.New(2), [][]api.Entry{on(flow("a"))}, []int{4}
	w := World{config(), c, s, k, tables, places, 8}
	want(t, "parts", w.Config == config() && w.Cells == c && w.Slots == s && w.Keeper == k && w.Now == 8)
	want(t, "lists", slices.Equal(w.Places, places) && slices.Equal(w.Live(), []string{"a"}))
}

// P2: in a new world nothing is held, and no flow is there: it has just as many cells, locks, slots, tables and places as the chapter says, and all is 0.
func TestNewWorld(t *testing.T) {
	for _, c := range edges() {
		w := made(t, c)
		want(t, "nothing was called", w.Cells.Shared() == 0)
		hold(t, "new", w, newBook(c))
		want(t, "no flow", len(w.Live()) == 0)
		for i, owner := range w.Owners() {
			want(t, "nobody's "+strconv.Itoa(i), owner == -1)
		}
	}
	for _, f := range fields {
		for n := f.low; n <= min(f.high, 100); n++ {
			c := config()
			*f.of(&c) = n
			hold(t, f.name+" "+strconv.Itoa(n), made(t, c), newBook(c))
		}
	}
}

// P2: each shard's table is flows.New of the capacity, of each number of shards and each capacity; and no flow is more than there is room for.
func TestTables(t *testing.T) {
	for shards := 1; shards <= 16; shards++ {
		for capacity := 1; capacity <= 64; capacity++ {
			c := api.Config{Workers: 1, Shards: shards, Capacity: capacity, Idle: 5, Slots: 2}
			w := made(t, c)
			if len(w.Tables) != shards || len(w.Places) != shards || len(w.Owners()) != shards {
				t.Fatal(shards, capacity, len(w.Tables), len(w.Places), len(w.Owners()))
			}
			for i, table := range w.Tables {
				if len(table) != capacity || !slices.Equal(table, flows.New(capacity)) || w.Places[i] != 0 {
					t.Fatal(shards, capacity, i, table, w.Places[i])
				}
			}
		}
	}
	w, k := made(t, config()), newBook(config())
	for i := range w.Tables {
		for n := range 11 {
			u, err := flows.Put(w.Tables[i], strconv.Itoa(100*i+n), 1, 1)
			want(t, "ten flows, and no more", (err == api.OK) == (n < 10))
			w.Tables[i] = u
		}
		k.tables[i] = slices.Clone(w.Tables[i])
	}
	hold(t, "full", w, k)
	want(t, "fifty", len(w.Live()) == 50)
}

// P2: the cells are one for the epoch, one for the current slot, and one of each worker's pin: each holds what was stored in it, and none is another one.
func TestCells(t *testing.T) {
	for workers := 1; workers <= 64; workers++ {
		c := config()
		c.Workers = workers
		w, k := made(t, c), newBook(c)
		w.Cells.Store(Epoch, 71)
		w.Cells.Store(Current, 72)
		k.cells[0], k.cells[1] = 71, 72
		hold(t, "the first two", w, k)
		for who := 1; who <= workers; who++ {
			w.Cells.Store(w.Pin(who), 1000+who)
			k.cells[1+who] = 1000 + who
		}
		hold(t, "the pins", w, k)
		w.Cells.Store(2+workers, 5)
		w.Cells.Store(w.Pin(0), 5)
		w.Cells.Store(w.Pin(workers+1), 5)
		want(t, "one behind the last", w.Cells.Add(2+workers, 1) == 0 && !w.Cells.Swap(2+workers, 0, 1))
		hold(t, "no cell more", w, k)
	}
}

// P2: there is no current slot at first: what is 1 less than 0 is none.
func TestNoCurrent(t *testing.T) {
	for _, c := range edges() {
		w := made(t, c)
		slot := w.Cells.Load(Current) - 1
		_, ready := w.Slots.Size(slot)
		want(t, "none", slot == -1 && !ready && w.Keeper.State(slot) == -1 && w.Cells.Load(Epoch) == 0)
	}
}

// P2: Slots and the Keeper have as many slots as the config says: all spoilt, and all free.
func TestSlots(t *testing.T) {
	for n := 2; n <= 8; n++ {
		c := config()
		c.Slots = n
		w, k := made(t, c), newBook(c)
		for i := -far; i <= n+far; i++ {
			there := i >= 0 && i < n
			want(t, "none is being built at first", !w.Slots.Fill(i, backends(1)))
			want(t, "each one that there is may be begun", w.Slots.Begin(i) == there)
			want(t, "and filled", w.Slots.Fill(i, backends(i+4)) == there)
			if there {
				k.sizes[i] = i + 4
			}
			hold(t, "filled", w, k)
			want(t, "none is taken, and none retired at first", !w.Keeper.Retire(i, 0) && !w.Keeper.Free(i))
		}
		for i := range n {
			want(t, "none is ripe", w.Keeper.Ripe(nil) == -1)
			want(t, "the lowest one is taken", w.Keeper.Take() == i)
			k.states[i] = 1
			hold(t, "taken", w, k)
		}
		want(t, "no slot more", w.Keeper.Take() == -1)
		for i := range n {
			want(t, "retired", w.Keeper.Retire(i, i))
			k.states[i] = 2
		}
		want(t, "no slot more is retired", !w.Keeper.Retire(n, 0) && w.Keeper.Ripe(nil) == 0)
		hold(t, "retired", w, k)
	}
}

// P1, P2: Tick of all numbers at its edges, from all times at its edges: also from times that were put there by hand.
func TestTick(t *testing.T) {
	ds := append([]int{}, numbers...)
	for _, now := range []int{0, 1, 2, 3, 77, 999999, 1000000, 1000001, 500000000, 998999999, 999000000, 999000001, 999999998, 999999999, 1000000000, 1000000001, 2000000000, 1 << 40, -1, -2, -1000000, -1000001, -1 << 40, math.MinInt, math.MinInt + 1} {
		for _, d := range append(ds, 1000000000-now-1, 1000000000-now, 1000000000-now+1) {
			w, k := made(t, config()), newBook(config())
			w.Now, k.now = now, now
			w.Tick(d)
			k.tick(d)
			if w.Now != k.now {
				t.Errorf("%d, Tick %d: %d, not %d", now, d, w.Now, k.now)
			}
			hold(t, "ticked", w, k)
		}
	}
}

// P2: Tick by numbers that are written out.
func TestTickWritten(t *testing.T) {
	w := made(t, config())
	for i, x := range []struct{ d, now int }{
		{0, 0}, {-1, 0}, {1, 1}, {0, 1}, {-1, 1}, {math.MinInt, 1}, {math.MaxInt, 1}, {1000001, 1}, {999999, 1000000}, {1000000, 2000000}, {1000000, 3000000},
		{1 << 32, 3000000}, {-1000000, 3000000}, {1000002, 3000000}, {5, 3000005}, {2000000, 3000005},
	} {
		w.Tick(x.d)
		if w.Now != x.now {
			t.Fatal(i, x.d, w.Now, x.now)
		}
	}
}

// P2: time goes on to just 1000000000, step by step, and no further.
func TestTickToTheEnd(t *testing.T) {
	for _, d := range []int{1000000, 999999, 500001, 333333} {
		w, k := made(t, config()), newBook(config())
		for range 1000000000/d + 3 {
			w.Tick(d)
			k.tick(d)
			if w.Now != k.now || w.Now != min(w.Now, 1000000000) {
				t.Fatal(d, w.Now, k.now)
			}
		}
		want(t, "no room for one more", w.Now > 1000000000-d && w.Now == 1000000000/d*d)
		w.Tick(1000000000 - w.Now + 1)
		want(t, "one above it", w.Now == 1000000000/d*d)
		w.Tick(1000000000 - w.Now)
		want(t, "just there", w.Now == 1000000000)
		for _, n := range numbers {
			w.Tick(n)
		}
		want(t, "still there", w.Now == 1000000000)
		k.now = 1000000000
		hold(t, "at the end", w, k)
	}
}

// P1, P2: Pin of each worker, of those that there are not, and of numbers far off.
func TestPin(t *testing.T) {
	for workers := 1; workers <= 64; workers++ {
		c := config()
		c.Workers = workers
		w, k := made(t, c), newBook(c)
		seen := map[int]bool{-1: true, Epoch: true, Current: true}
		for who := 1; who <= workers; who++ {
			at := w.Pin(who)
			if at != who+1 || at != Pins+who-1 || seen[at] {
				t.Fatal(workers, who, at)
			}
			seen[at] = true
		}
		for _, who := range append([]int{workers - 1, workers, workers + 1, -workers, workers + 1<<32, workers + math.MinInt}, numbers...) {
			if at := w.Pin(who); at != k.pin(who) || (at == -1) != (who < 1 || who > workers) {
				t.Fatal(workers, who, at)
			}
		}
	}
}

// P2: Live with no flow, with flows of one shard and of several, with tombs between them, in the order of the tables and of their places.
func TestLive(t *testing.T) {
	odd := api.Entry{State: 3, Key: "odd"}
	for i, x := range []struct {
		tables [][]api.Entry
		live   []string
	}{
		{nil, nil},
		{[][]api.Entry{}, nil},
		{[][]api.Entry{nil}, nil},
		{[][]api.Entry{nil, on(), nil}, nil},
		{[][]api.Entry{on(free, tomb), on(tomb), on(free)}, nil},
		{[][]api.Entry{on(flow("a"))}, []string{"a"}},
		{[][]api.Entry{on(free, flow("a"))}, []string{"a"}},
		{[][]api.Entry{on(flow("b"), flow("a"))}, []string{"b", "a"}},
		{[][]api.Entry{on(flow("b"), tomb, flow("a"), tomb, free, flow("c"), tomb)}, []string{"b", "a", "c"}},
		{[][]api.Entry{on(flow("z"), free), on(free, flow("y")), on(flow("x"), flow("w"))}, []string{"z", "y", "x", "w"}},
		{[][]api.Entry{on(tomb, flow("2")), nil, on(free, free), on(flow("1"), tomb, flow("0"))}, []string{"2", "1", "0"}},
		{[][]api.Entry{nil, nil, on(flow("last"))}, []string{"last"}},
		// A key that stands twice is told twice, an empty one is a key, and what is told is the bytes.
		{[][]api.Entry{on(flow("a"), flow("a")), on(flow("a"))}, []string{"a", "a", "a"}},
		{[][]api.Entry{on(flow(""), free, flow("")), on(flow("\x00\xff"))}, []string{"", "", "\x00\xff"}},
		// Just what is Live is a flow, whatever else stands in an entry.
		{[][]api.Entry{on(odd, api.Entry{State: 2, Key: "t"}, api.Entry{Key: "e"}, api.Entry{State: -1, Key: "n"}, api.Entry{State: math.MaxInt, Key: "m"}, api.Entry{State: 1})}, []string{""}},
		{[][]api.Entry{on(api.Entry{State: 1, Key: "k", Backend: math.MinInt, Deadline: math.MinInt}, api.Entry{State: 1, Key: "l", Backend: math.MaxInt, Deadline: math.MaxInt})}, []string{"k", "l"}},
	} {
		w, k := made(t, config()), newBook(config())
		w.Tables = x.tables
		k.tables = nil
		for _, table := range x.tables {
			k.tables = append(k.tables, slices.Clone(table))
		}
		if live := w.Live(); !slices.Equal(live, x.live) {
			t.Errorf("%d: %q, not %q", i, live, x.live)
		}
		hold(t, strconv.Itoa(i), w, k)
	}
}

// P2: Live of flows that are put and deleted: those of a table are flows.Keys of it, table by table.
func TestLiveOfFlows(t *testing.T) {
	next := chance(3)
	w, k := made(t, config()), newBook(config())
	for range 3000 {
		i, key := next(5), "key"+strconv.Itoa(next(30))
		if next(3) > 0 {
			w.Tables[i], _ = flows.Put(w.Tables[i], key, next(9), next(9))
		} else {
			w.Tables[i], _ = flows.Delete(w.Tables[i], key)
		}
		k.tables[i] = slices.Clone(w.Tables[i])
		var keys []string
		for _, table := range w.Tables {
			keys = append(keys, flows.Keys(table)...)
		}
		if live := w.Live(); !slices.Equal(live, keys) || !slices.Equal(live, k.live()) {
			t.Fatal(live, keys, k.live())
		}
	}
	hold(t, "at last", w, k)
}

// P2: Owners with none held, with each one alone, and with all choices of locks and owners.
func TestOwners(t *testing.T) {
	c := config()
	c.Shards = 4
	for choice := range 4 * 4 * 4 * 4 {
		w, k := made(t, c), newBook(c)
		for i := range 4 {
			who := choice>>(2*i)&3 - 1
			want(t, "taken", w.Cells.Lock(i, who) == (who >= 0))
			k.owners[i] = who
		}
		hold(t, "some are held", w, k)
		for i := range 4 {
			if k.owners[i] >= 0 {
				want(t, "freed", w.Cells.Unlock(i, k.owners[i]))
			}
			k.owners[i] = -1
			hold(t, "some are freed", w, k)
		}
	}
}

// P2: Owners of each number of shards: one, all, and nobody again; by threads of all numbers.
func TestOwnersOfAll(t *testing.T) {
	for shards := 1; shards <= 16; shards++ {
		c := config()
		c.Shards = shards
		w, k := made(t, c), newBook(c)
		for i := range shards {
			w.Cells.Lock(i, 64-i)
			k.owners[i] = 64 - i
			hold(t, "one more", w, k)
			want(t, "held by one at a time", !w.Cells.Lock(i, 64-i) && !w.Cells.Lock(i, 0) && !w.Cells.Unlock(i, 0))
			hold(t, "still", w, k)
		}
		want(t, "no lock more", !w.Cells.Lock(shards, 1) && !w.Cells.Lock(-1, 1) && !w.Cells.Unlock(shards, 1))
		hold(t, "all", w, k)
		for i := range shards {
			w.Cells.Unlock(i, 64-i)
			w.Cells.Lock(i, 0)
			k.owners[i] = 0
		}
		hold(t, "all of the thread 0", w, k)
		for i := shards - 1; i >= 0; i-- {
			w.Cells.Unlock(i, 0)
			k.owners[i] = -1
		}
		hold(t, "nobody's", w, k)
	}
	w := made(t, config())
	w.Cells.Lock(1, math.MaxInt)
	w.Cells.Lock(2, math.MinInt)
	want(t, "of odd numbers", slices.Equal(w.Owners(), []int{-1, math.MaxInt, -1, -1, -1}))
}

// P2: the chapter's example.
func TestExamples(t *testing.T) {
	w, err := New(api.Config{Workers: 1, Shards: 2, Capacity: 3, Idle: 0, Slots: 2})
	if err != api.OK || w == nil {
		t.Fatal(err)
	}
	want(t, "two tables of three entries", len(w.Tables) == 2 && len(w.Tables[0]) == 3 && len(w.Tables[1]) == 3)
	for _, table := range w.Tables {
		want(t, "all Empty", slices.Equal(table, on(free, free, free)))
	}
}

// P2: two worlds share nothing, whatever is done with one of them; nor do two of one config.
func TestTwoWorlds(t *testing.T) {
	for _, c := range edges() {
		one, two := made(t, c), made(t, c)
		spoil(one)
		hold(t, "the other one", two, newBook(c))
		hold(t, "one that is made behind it", made(t, c), newBook(c))
		spoil(two)
		hold(t, "and once more", made(t, c), newBook(c))
	}
	a, b := config(), config()
	b.Workers, b.Shards = 7, 2
	one, two := made(t, a), made(t, b)
	spoil(two)
	hold(t, "of another config", one, newBook(a))
}

// P2: each step of one of two worlds is seen in that one alone.
func TestTwoStepByStep(t *testing.T) {
	c := config()
	one, two, k := made(t, c), made(t, c), newBook(c)
	for i, step := range []func(w *World){
		func(w *World) { w.Tick(5) },
		func(w *World) { w.Cells.Add(Epoch, 3) },
		func(w *World) { w.Cells.Store(Current, 1) },
		func(w *World) { w.Cells.Store(w.Pin(2), 9) },
		func(w *World) { w.Cells.Lock(4, 2) },
		func(w *World) { w.Keeper.Take() },
		func(w *World) { w.Slots.Begin(0) },
		func(w *World) { w.Slots.Fill(0, backends(3)) },
		func(w *World) { w.Keeper.Retire(0, 3) },
		func(w *World) { w.Tables[3][7] = flow("a") },
		func(w *World) { w.Tables[0], _ = flows.Put(w.Tables[0], "b", 1, 1) },
		func(w *World) { w.Places[2] = 4 },
		func(w *World) { w.Config.Workers = 2 },
		func(w *World) { w.Cells.Unlock(4, 2) },
	} {
		step(one)
		hold(t, strconv.Itoa(i), two, k)
	}
	want(t, "a slot of the other one is not being built", !two.Slots.Fill(0, backends(1)))
}

// P2: no two tables of a world share anything, nor do its lists: what is put into one place, or laid behind one of them, is seen nowhere else.
func TestTablesShareNothing(t *testing.T) {
	c := config()
	for i := range c.Shards {
		w, k := made(t, c), newBook(c)
		for j := range w.Tables[i] {
			w.Tables[i][j] = flow("mine")
			k.tables[i][j] = flow("mine")
		}
		_ = append(w.Tables[i], slices.Repeat(on(flow("behind it")), 500)...)
		_ = append(w.Places, 1, 2, 3)
		_ = append(w.Tables, on(flow("one more")))
		w.Places[i] = 9
		k.places[i] = 9
		hold(t, "shard "+strconv.Itoa(i), w, k)
	}
}

// P2, R3: what Live and Owners told may be changed behind it, and the world stays as it was; and what was told stays, whatever is done with the world.
func TestTold(t *testing.T) {
	w, k := made(t, config()), newBook(config())
	for i, key := range []string{"a", "b", "c"} {
		w.Tables[i][i] = flow(key)
		k.tables[i][i] = flow(key)
	}
	w.Cells.Lock(1, 3)
	k.owners[1] = 3
	live, owners, live2, owners2 := w.Live(), w.Owners(), w.Live(), w.Owners()
	for i := range live {
		live[i] = "changed"
	}
	for i := range owners {
		owners[i] = 99
	}
	_ = append(live[:1], "over it", "and behind it")
	_ = append(owners[:1], 88, 88, 88, 88, 88, 88)
	hold(t, "changed behind it", w, k)
	want(t, "told twice", slices.Equal(live2, []string{"a", "b", "c"}) && slices.Equal(owners2, []int{-1, 3, -1, -1, -1}))
	spoil(w)
	want(t, "told before", slices.Equal(live2, []string{"a", "b", "c"}) && slices.Equal(owners2, []int{-1, 3, -1, -1, -1}))
}

// P2, R3: the config that New was handed may be changed behind it, and is not changed by what is done with the world.
func TestConfigIsItsOwn(t *testing.T) {
	c := config()
	w := made(t, c)
	c = api.Config{Workers: 64, Shards: 16, Capacity: 64, Idle: 1, Slots: 8}
	hold(t, "changed behind it", w, newBook(config()))
	c = config()
	w = made(t, c)
	spoil(w)
	want(t, "not changed", c == config())
}

// P2, R3: Live changes no table, also none that was put there by hand; Tick and Pin change nothing else.
func TestNothingElseChanges(t *testing.T) {
	w, k := made(t, config()), newBook(config())
	mine := append(make([]api.Entry, 0, 9), flow("a"), tomb, flow("b"))
	w.Tables[2] = mine
	k.tables[2] = slices.Clone(mine)
	for _, n := range numbers {
		w.Live()
		w.Owners()
		w.Pin(n)
		w.Tick(min(n, -1))
		hold(t, "called", w, k)
	}
	want(t, "behind it", slices.Equal(mine[:9][3:], make([]api.Entry, 6)))
}

// P1: no call panics, and each ends, in worlds that were put together by hand, or changed so: also where their Config is of any numbers.
func TestByHand(t *testing.T) {
	var w World
	want(t, "of nothing", len(w.Live()) == 0 && len(w.Owners()) == 0 && w.Pin(0) == -1 && w.Pin(1) == -1 && w.Now == 0)
	w.Tick(7)
	want(t, "time passes", w.Now == 7)
	for _, n := range numbers {
		c := api.Config{Workers: n, Shards: n, Capacity: n, Idle: n, Slots: n}
		bare, held := World{Config: c}, made(t, config())
		held.Config = c
		held.Cells.Lock(4, 6)
		for _, x := range []*World{&bare, held} {
			for _, who := range numbers {
				x.Now = who
				x.Tick(n)
				want(t, "there is such a worker", (x.Pin(who) != -1) == (who >= 1 && who <= n))
			}
			want(t, "no flow", len(x.Live()) == 0)
			owners := x.Owners()
			want(t, "as many owners", n < 0 || len(owners) <= n)
			want(t, "no more are held", x == held || !slices.ContainsFunc(owners, func(who int) bool { return who != -1 }))
		}
		if n >= 5 {
			want(t, "each lock that there is", slices.Equal(held.Owners()[:5], []int{-1, -1, -1, -1, 6}))
		}
	}
	long := made(t, config())
	long.Tables = slices.Repeat([][]api.Entry{slices.Repeat(on(flow("a"), free, tomb), 700)}, 50)
	want(t, "long tables", slices.Equal(long.Live(), slices.Repeat([]string{"a"}, 35000)))
}

// P2, R4: the same calls tell the same, in another world and once more.
func TestSameAgain(t *testing.T) {
	for _, c := range edges() {
		one, two := made(t, c), made(t, c)
		for _, n := range numbers {
			one.Tick(n)
			two.Tick(n)
			want(t, "alike", one.Now == two.Now && one.Pin(n) == two.Pin(n) && one.Pin(n) == one.Pin(n))
		}
		spoil(one)
		spoil(two)
		want(t, "alike again", slices.Equal(one.Live(), two.Live()) && slices.Equal(one.Owners(), two.Owners()) && one.Now == two.Now)
	}
}

// row does something to a world and to its book: which thing, and with which numbers.
func row(t *testing.T, w *World, k *book, kind, i, n int) {
	t.Helper()
	switch kind {
	case 0:
		w.Tick(n)
		k.tick(n)
	case 1:
		if w.Pin(i) != k.pin(i) {
			t.Fatal("pin", i, w.Pin(i), k.pin(i))
		}
		w.Cells.Store(w.Pin(i), n)
		if at := k.pin(i); at >= 0 {
			k.cells[at] = n
		}
	case 2:
		w.Cells.Add(i&1, n)
		k.cells[i&1] += n
	case 3:
		if w.Cells.Lock(i, n) {
			want(t, "it was nobody's", k.owners[i] == -1)
			k.owners[i] = n
		}
	case 4:
		if at := i; at >= 0 && at < len(k.owners) && k.owners[at] >= 0 {
			want(t, "freed", w.Cells.Unlock(at, k.owners[at]))
			k.owners[at] = -1
		}
	case 5:
		if at := i; at >= 0 && at < len(w.Tables) {
			w.Tables[at], _ = flows.Put(w.Tables[at], strconv.Itoa(n%100), i, n)
			k.tables[at] = slices.Clone(w.Tables[at])
			w.Places[at], k.places[at] = n, n
		}
	case 6:
		if at := i; at >= 0 && at < len(w.Tables) {
			w.Tables[at], _ = flows.Delete(w.Tables[at], strconv.Itoa(n%100))
			k.tables[at] = slices.Clone(w.Tables[at])
		}
	case 7:
		if slot := w.Keeper.Take(); slot >= 0 {
			size := n & 31
			want(t, "begun and filled", w.Slots.Begin(slot) && w.Slots.Fill(slot, backends(size)))
			k.sizes[slot], k.states[slot] = size, 1
		}
	case 8:
		if w.Keeper.Retire(i, n) {
			k.states[i] = 2
		}
	case 9:
		if w.Keeper.Free(i) {
			want(t, "spoilt", w.Slots.Spoil(i))
			k.sizes[i], k.states[i] = unready, 0
		}
	}
}

// kinds is how many things row does.
const kinds = 10

// P1, P2: long rows of all that is done in a world, of several configs, held against a book of the chapter's own sentences; another world, in which nothing is done, stays as it was.
func TestLongRows(t *testing.T) {
	next := chance(7)
	for _, c := range edges() {
		w, still, k := made(t, c), made(t, c), newBook(c)
		for at := range 600 {
			n := next(1000002)
			if next(8) == 0 {
				n = numbers[next(len(numbers))]
			}
			row(t, w, k, next(kinds), next(20)-1, n)
			if at%20 == 0 {
				hold(t, "a row", w, k)
			}
		}
		hold(t, "a row", w, k)
		hold(t, "nothing was done", still, newBook(c))
	}
}

// P1, P2: whatever configs and rows there are.
func FuzzWorld(f *testing.F) {
	f.Add(3, 5, 10, 77, 4, "\x00\x01\x02\x03\x04\x05")
	f.Add(1, 1, 1, 0, 2, "\x00\x00\xff\x01\x01\x01\x05\x00\x09\x07\x00\x03")
	f.Add(64, 16, 64, 1000000, 8, "\x03\x0f\x01\x05\x0f\x01\x06\x0f\x01\x04\x0f\x00\x88\x00\x05\x89\x00\x05")
	f.Add(0, 17, 65, -1, 9, "")
	f.Fuzz(func(t *testing.T, workers, shards, capacity, idle, size int, s string) {
		c := api.Config{Workers: workers, Shards: shards, Capacity: capacity, Idle: idle, Slots: size}
		w, err := New(c)
		if err != model.Check(c) || (w == nil) != (err != api.OK) {
			t.Fatal(c, err)
		}
		if err != api.OK {
			return
		}
		k := newBook(c)
		for ; len(s) >= 3; s = s[3:] {
			n := int(s[2])
			if s[0] >= 128 {
				n = numbers[n%len(numbers)]
			}
			row(t, w, k, int(s[0])%kinds, int(int8(s[1])), n)
		}
		hold(t, "a row", w, k)
	})
}
