package model

import (
	"math"
	"slices"
	"strconv"
	"strings"
	"testing"

	"gangplank/api"
	"gangplank/flows"
	"gangplank/fnv"
	"gangplank/probe"
	"gangplank/ring"
)

// holdDecide holds Decide against the chapter's sentences, and against what holds; it tells what Decide tells.
func holdDecide(t *testing.T, table []api.Entry, p []api.Backend, key string, closing bool, now, idle int) ([]api.Entry, api.Answer) {
	t.Helper()
	was, pool := slices.Clone(table), slices.Clone(p)
	wanted, told := wantDecide(table, p, key, closing, now, idle)
	u, a := Decide(table, p, key, closing, now, idle)
	if !slices.Equal(u, wanted) || a != told {
		t.Fatalf("Decide %v %v %q %v %d %d: %v %+v, not %v %+v", was, pool, key, closing, now, idle, u, a, wanted, told)
	}
	if !slices.Equal(table, was) || !slices.Equal(p, pool) {
		t.Fatalf("Decide %v %v %q %v %d %d: changed to %v %v", was, pool, key, closing, now, idle, table, p)
	}
	if a.Err != api.OK && (a != (api.Answer{Err: a.Err}) || !slices.Equal(u, table)) {
		t.Fatalf("Decide %v %v %q %v %d %d: fails, and tells %v %+v", was, pool, key, closing, now, idle, u, a)
	}
	return u, a
}

// unlike is a pool of two backends, the one that a key goes to, and the other one.
func unlike(key string) (p []api.Backend, ringed, other int) {
	p = list(b(3, 1), b(5, 2))
	ringed = ring.Pick(p, fnv.Sum(key))
	return p, ringed, 8 - ringed
}

// P2, P5: a flow that is known stays with its backend, though the ring says another one; one that is not goes to where the ring says.
func TestKnown(t *testing.T) {
	for home := range 5 {
		for _, key := range keysAt(t, home, 5, 5) {
			p, ringed, other := unlike(key)
			for _, x := range []struct {
				name     string
				backend  int
				deadline int
				known    bool
			}{
				{"just now", other, 100, true}, {"one above", other, 101, true}, {"one below", other, 99, false},
				{"far above", other, math.MaxInt, true}, {"far below", other, math.MinInt, false}, {"nought", other, 0, false},
				{"just now, where the ring says", ringed, 100, true}, {"one below, where the ring says", ringed, 99, false},
				{"a backend that there is not", 4, 100, false}, {"a backend that there is not, above", 4, math.MaxInt, false}, {"no backend", 0, 100, false}, {"a backend of -1", -1, 100, false},
				{"a place instead of an Id", 1, 100, false},
			} {
				old := flow(key, x.backend, x.deadline)
				table := with(flows.New(5), old, home)
				want := api.Answer{Backend: ringed, Made: true}
				if x.known {
					want = api.Answer{Backend: x.backend}
				}
				u, a := holdDecide(t, table, p, key, false, 100, 10)
				if a != want || !slices.Equal(u, with(table, flow(key, want.Backend, 110), home)) {
					t.Errorf("%s: %+v %v", x.name, a, u)
				}
				// One that closes is told the same backend, but is never made, and gone behind that.
				u, a = holdDecide(t, table, p, key, true, 100, 10)
				if a != (api.Answer{Backend: want.Backend}) || !slices.Equal(u, with(table, tomb, home)) {
					t.Errorf("%s, closing: %+v %v", x.name, a, u)
				}
				for _, closing := range []bool{false, true} {
					for _, none := range [][]api.Backend{nil, {}, p[:0]} {
						u, a = holdDecide(t, table, none, key, closing, 100, 10)
						if a != (api.Answer{Err: 11}) || !slices.Equal(u, table) {
							t.Errorf("%s, without backends, closing %v: %+v %v", x.name, closing, a, u)
						}
					}
				}
			}
		}
	}
}

// P2: a key that does not stand: it is made at its home, or just told a backend, if it closes.
func TestUnknown(t *testing.T) {
	for _, key := range []string{"", "a", "\x00", "\xff\xfe", strings.Repeat("\x00", 38), strings.Repeat("k", 5000)} {
		p, ringed, _ := unlike(key)
		table := flows.New(7)
		u, a := holdDecide(t, table, p, key, false, -3, 8)
		if a != (api.Answer{Backend: ringed, Made: true}) || !slices.Equal(u, with(table, flow(key, ringed, 5), probe.Home(key, 7))) {
			t.Errorf("%q: %+v %v", key, a, u)
		}
		u, a = holdDecide(t, table, p, key, true, -3, 8)
		if a != (api.Answer{Backend: ringed}) || !slices.Equal(u, table) {
			t.Errorf("%q, closing: %+v %v", key, a, u)
		}
		for _, closing := range []bool{false, true} {
			u, a = holdDecide(t, table, nil, key, closing, -3, 8)
			if a != (api.Answer{Err: 11}) || !slices.Equal(u, table) {
				t.Errorf("%q, without backends: %+v %v", key, a, u)
			}
		}
	}
}

// P2, P5: what becomes of a packet is not seen by other flows; and just the flow's own backend, key and time make it known.
func TestOthers(t *testing.T) {
	keys := keysAt(t, 2, 6, 4)
	p, ringed, other := unlike(keys[0])
	table := on(flow("x", other, 500), free, flow(keys[1], other, 500), flow(keys[2], other, 500), flow(keys[3], other, 1), free)
	u, a := holdDecide(t, table, p, keys[0], false, 9, 9)
	want(t, "made behind all", a == api.Answer{Backend: ringed, Made: true} && slices.Equal(u, with(table, flow(keys[0], ringed, 18), 5)))
	u, a = holdDecide(t, table, p, keys[0], true, 9, 9)
	want(t, "closed", a == api.Answer{Backend: ringed} && slices.Equal(u, table))
	// An Empty entry hides what stands behind it, and a Tomb holds nothing, whatever stands in it.
	hidden := on(free, free, free, flow(keys[0], other, 500), free, free)
	u, a = holdDecide(t, hidden, p, keys[0], false, 9, 9)
	want(t, "hidden", a == api.Answer{Backend: ringed, Made: true} && slices.Equal(u, with(hidden, flow(keys[0], ringed, 18), 2)))
	for _, state := range []int{0, 2, 3, -1, math.MinInt, math.MaxInt, 1<<32 + 1} {
		dead := with(flows.New(6), api.Entry{State: state, Key: keys[0], Backend: other, Deadline: 500}, 2)
		u, a = holdDecide(t, dead, p, keys[0], false, 9, 9)
		want(t, "dead", a == api.Answer{Backend: ringed, Made: true} && slices.Equal(u, with(dead, flow(keys[0], ringed, 18), 2)))
	}
	// The way goes on over Tombs: the flow is known there, and stays where it stands.
	behind := on(free, free, tomb, tomb, flow(keys[0], other, 500), free)
	u, a = holdDecide(t, behind, p, keys[0], false, 9, 9)
	want(t, "behind Tombs", a == api.Answer{Backend: other} && slices.Equal(u, with(behind, flow(keys[0], other, 18), 4)))
	// Not known, but it stands: it is made where it stands.
	late := with(behind, flow(keys[0], other, 8), 4)
	u, a = holdDecide(t, late, p, keys[0], false, 9, 9)
	want(t, "late, behind Tombs", a == api.Answer{Backend: ringed, Made: true} && slices.Equal(u, with(behind, flow(keys[0], ringed, 18), 4)))
}

// P2: a table that is full of other flows takes no flow, but one that closes is told its backend; what stands there already is put.
func TestFull(t *testing.T) {
	for n := range 9 {
		for _, deadline := range []int{math.MinInt, 0, 99, 100, math.MaxInt} {
			table := make([]api.Entry, n)
			for i := range table {
				table[i] = flow("other"+strconv.Itoa(i), 3, deadline)
			}
			p, ringed, other := unlike("k")
			u, a := holdDecide(t, table, p, "k", false, 100, 10)
			if a != (api.Answer{Err: 12}) || !slices.Equal(u, table) {
				t.Errorf("%d: %+v %v", n, a, u)
			}
			u, a = holdDecide(t, table, p, "k", true, 100, 10)
			if a != (api.Answer{Backend: ringed}) || !slices.Equal(u, table) {
				t.Errorf("%d, closing: %+v %v", n, a, u)
			}
			u, a = holdDecide(t, table, nil, "k", false, 100, 10)
			if a != (api.Answer{Err: 11}) || !slices.Equal(u, table) {
				t.Errorf("%d, without backends: %+v %v", n, a, u)
			}
			for at := range n {
				full := with(table, flow("k", other, 100), at)
				u, a = holdDecide(t, full, p, "k", false, 100, 10)
				if a != (api.Answer{Backend: other}) || !slices.Equal(u, with(full, flow("k", other, 110), at)) {
					t.Errorf("%d, known: %+v %v", n, a, u)
				}
				full = with(table, flow("k", other, 99), at)
				u, a = holdDecide(t, full, p, "k", false, 100, 10)
				if a != (api.Answer{Backend: ringed, Made: true}) || !slices.Equal(u, with(full, flow("k", ringed, 110), at)) {
					t.Errorf("%d, late: %+v %v", n, a, u)
				}
				full = with(table, tomb, at)
				u, a = holdDecide(t, full, p, "k", false, 100, 10)
				if a != (api.Answer{Backend: ringed, Made: true}) || !slices.Equal(u, with(full, flow("k", ringed, 110), at)) {
					t.Errorf("%d, a Tomb: %+v %v", n, a, u)
				}
			}
		}
	}
}

// P2: times at the edges: a Deadline is held against now as it is, and goes round where it is put.
func TestTimes(t *testing.T) {
	p, ringed, other := unlike("k")
	for _, deadline := range numbers {
		for _, now := range numbers {
			for _, idle := range numbers {
				known := deadline >= now
				want := api.Answer{Backend: ringed, Made: true}
				if known {
					want = api.Answer{Backend: other}
				}
				u, a := holdDecide(t, on(flow("k", other, deadline)), p, "k", false, now, idle)
				if a != want || u[0].Deadline != int(uint64(now)+uint64(idle)) || u[0].Backend != a.Backend {
					t.Errorf("%d at %d, idle %d: %+v %v", deadline, now, idle, a, u)
				}
				_, a = holdDecide(t, on(flow("k", other, deadline)), p, "k", true, now, idle)
				if a != (api.Answer{Backend: want.Backend}) {
					t.Errorf("%d at %d, closing: %+v", deadline, now, a)
				}
			}
		}
	}
	for _, x := range []struct{ now, idle, want int }{
		{0, 0, 0}, {5, 0, 5}, {5, -7, -2}, {math.MaxInt, 0, math.MaxInt}, {math.MaxInt, 1, math.MinInt}, {math.MaxInt - 9, 10, math.MinInt}, {math.MaxInt - 9, 9, math.MaxInt},
		{math.MaxInt, math.MaxInt, -2}, {math.MinInt, -1, math.MaxInt}, {math.MinInt, math.MinInt, 0}, {math.MinInt, math.MaxInt, -1}, {1, math.MaxInt, math.MinInt},
	} {
		u, a := holdDecide(t, flows.New(1), p, "k", false, x.now, x.idle)
		if a != (api.Answer{Backend: ringed, Made: true}) || !slices.Equal(u, on(flow("k", ringed, x.want))) {
			t.Errorf("%d, idle %d: %+v %v", x.now, x.idle, a, u)
		}
		// At the same time it is known just if its Deadline did not go round; with an idle below 0 it never is.
		_, a = holdDecide(t, u, p, "k", false, x.now, x.idle)
		if a.Made != (x.want < x.now) {
			t.Errorf("%d, idle %d, again: %+v", x.now, x.idle, a)
		}
	}
}

// P2: an idle of 0 keeps a flow for the time at which it was seen last; one below 0 for none.
func TestIdle(t *testing.T) {
	p, ringed, _ := unlike("k")
	for _, x := range []struct{ idle, later int }{{0, 0}, {0, 1}, {1, 1}, {1, 2}, {10, 10}, {10, 11}, {-1, 0}, {-1, -1}, {-1, -2}, {-10, -10}, {-10, -9}} {
		u, _ := holdDecide(t, flows.New(3), p, "k", false, 50, x.idle)
		_, a := holdDecide(t, u, p, "k", false, 50+x.later, x.idle)
		if a != (api.Answer{Backend: ringed, Made: x.later > x.idle}) {
			t.Errorf("idle %d, %d later: %+v", x.idle, x.later, a)
		}
	}
}

// P1, P2: pools of which pool.Check does not tell OK.
func TestBadPools(t *testing.T) {
	for _, p := range append(bad(), list(b(-1, 1)), list(b(-1, -1)), list(b(0, 16)), list(b(7, 0), b(7, 3)), list(b(5, 1), b(5, 16), b(-5, 2))) {
		for _, key := range []string{"", "a", "k"} {
			for _, backend := range []int{-1, 0, 1, 5, 7, 33, 34, 65536, math.MinInt, math.MaxInt} {
				if len(p) > 100 && backend > 1 {
					continue
				}
				for _, closing := range []bool{false, true} {
					for n := range 3 {
						table := flows.New(n)
						holdDecide(t, table, p, key, closing, 5, 5)
						for at := range table {
							_, a := holdDecide(t, with(table, flow(key, backend, 5), at), p, key, closing, 5, 5)
							if probe.Home(key, n) == at && (slices.ContainsFunc(p, func(x api.Backend) bool { return x.Id == backend }) && a.Backend != backend) {
								t.Errorf("%v, %d: %+v", p, backend, a)
							}
						}
					}
				}
			}
		}
	}
	// Backends without points: nothing is where the ring says, and that is told, and put.
	for _, p := range [][]api.Backend{list(b(1, 0)), list(b(1, -1), b(2, 0)), make([]api.Backend, 99)} {
		u, a := holdDecide(t, flows.New(1), p, "k", false, 5, 5)
		want(t, "made", a == api.Answer{Backend: -1, Made: true} && slices.Equal(u, on(flow("k", -1, 10))))
		_, a = holdDecide(t, u, p, "k", false, 5, 5)
		want(t, "made again", a == api.Answer{Backend: -1, Made: true})
		_, a = holdDecide(t, u, p, "k", true, 5, 5)
		want(t, "closed", a == api.Answer{Backend: -1})
		_, a = holdDecide(t, on(flow("k", p[0].Id, 5)), p, "k", false, 5, 5)
		want(t, "known", a == api.Answer{Backend: p[0].Id})
	}
}

// P1, P2: tables of which flows.Right tells false, tables that are empty, and tables that are longer than any balancer's.
func TestOddTables(t *testing.T) {
	p, ringed, other := unlike("k")
	twice := slices.Repeat(on(flow("k", other, 1), flow("k", ringed, 9)), 3)
	for _, table := range [][]api.Entry{
		nil, {}, flows.New(0), twice, twice[1:], with(twice, free, 2), with(twice, tomb, 0, 1, 3), slices.Repeat(on(flow("x", 3, 9)), 4), slices.Repeat(on(tomb), 5),
		slices.Repeat(on(api.Entry{State: 7, Key: "k", Backend: 3, Deadline: 9}), 5), slices.Repeat(on(tomb), 70), with(slices.Repeat(on(tomb), 70), flow("k", other, 9), 0),
		slices.Repeat(on(flow("x", 3, 9)), 70), with(slices.Repeat(on(flow("k", other, 9)), 100), tomb, 3, 4, 5), make([]api.Entry, 200), on(flow("", 0, 0)), on(flow("k", math.MinInt, 9), free),
	} {
		for _, key := range []string{"k", "x", "", "other"} {
			for _, pool := range [][]api.Backend{nil, p, list(b(ringed, 1)), list(b(0, 1))} {
				for _, now := range []int{math.MinInt, 0, 5, 9, 10, math.MaxInt} {
					holdDecide(t, table, pool, key, false, now, 4)
					holdDecide(t, table, pool, key, true, now, 4)
				}
			}
		}
	}
	// Of a key that stands twice the first one on its way is told, and it alone is changed.
	home := probe.Home("k", 6)
	u, a := holdDecide(t, with(twice, flow("k", other, 9), home), p, "k", true, 5, 4)
	want(t, "twice", a == api.Answer{Backend: other} && u[home] == tomb && probe.Count(u, 1) == 5)
}

// P2: a flow that closes leaves a Tomb; where there are more than half of them, the table is tidied.
func TestClosing(t *testing.T) {
	for n := 1; n <= 8; n++ {
		table := flows.New(n)
		var keys []string
		for home := range n {
			keys = append(keys, keysAt(t, home, n, 1)[0])
			table[home] = flow(keys[home], 5, 100)
		}
		for i, key := range keys {
			u, a := holdDecide(t, table, list(b(5, 1)), key, true, 50, 50)
			wanted := with(table, tomb, i)
			if 2*probe.Count(wanted, 2) > n {
				// Each flow that is left stands at its home: so it stays there.
				for at := range i + 1 {
					wanted[at] = free
				}
			}
			if a != (api.Answer{Backend: 5}) || !slices.Equal(u, wanted) {
				t.Errorf("%d of %d: %+v %v, not %v", i, n, a, u, wanted)
			}
			for _, left := range keys[i+1:] {
				if at := probe.Find(u, left); at == -1 || u[at] != flow(left, 5, 100) {
					t.Errorf("%d of %d: %q is gone", i, n, left)
				}
			}
			// Once more: it does not stand any more, and nothing is changed.
			v, a := holdDecide(t, u, list(b(5, 1)), key, true, 50, 50)
			if a != (api.Answer{Backend: 5}) || !slices.Equal(u, v) {
				t.Errorf("%d of %d, again: %+v %v", i, n, a, v)
			}
			table = u
		}
	}
}

// tables tells all tables of n entries out of these.
func tables(n int, of []api.Entry, told func(t []api.Entry)) {
	t := make([]api.Entry, n)
	var fill func(i int)
	fill = func(i int) {
		if i == n {
			told(t)
			return
		}
		for _, e := range of {
			t[i] = e
			fill(i + 1)
		}
	}
	fill(0)
}

// P1, P2, R3: all small tables of entries of all kinds.
func TestAllSmallTables(t *testing.T) {
	for n := range 4 {
		for home := range max(n, 1) {
			keys := keysAt(t, home, n, 2)
			p, ringed, other := unlike(keys[0])
			pools := [][]api.Backend{nil, p, list(b(ringed, 1)), list(b(other, 1)), list(b(9, 1))}
			of := on(free, tomb, flow(keys[0], other, 4), flow(keys[0], ringed, 5), flow(keys[0], other, 6), flow(keys[1], other, 5), api.Entry{State: 3, Key: keys[0], Backend: other, Deadline: 9})
			tables(n, of, func(table []api.Entry) {
				for _, pool := range pools {
					for _, idle := range []int{-1, 0, 3} {
						holdDecide(t, table, pool, keys[0], false, 5, idle)
						holdDecide(t, table, pool, keys[0], true, 5, idle)
					}
				}
			})
		}
	}
}

// P2, P5: flows that are made go to where the ring says, of all pools; and stay there, when other backends come and go.
func TestRing(t *testing.T) {
	for _, p := range good() {
		if len(p) == 0 {
			continue
		}
		table, want := flows.New(64), map[string]int{}
		for i := range 40 {
			key := bytesOf(keyOf(i))
			u, a := holdDecide(t, table, p, key, false, 0, 10)
			if table = u; a != (api.Answer{Backend: ring.Pick(p, fnv.Sum(key)), Made: true}) {
				t.Fatalf("%v: %+v", p, a)
			}
			want[key] = a.Backend
		}
		for gone := 0; gone < len(p); gone += 1 + len(p)/4 {
			q := append(slices.Delete(slices.Clone(p), gone, gone+1), b(30000, 16))
			for key, backend := range want {
				_, a := holdDecide(t, table, q, key, false, 10, 10)
				if backend != p[gone].Id && a != (api.Answer{Backend: backend}) {
					t.Fatalf("%v: it went from %d: %+v", q, backend, a)
				}
				if backend == p[gone].Id && a != (api.Answer{Backend: ring.Pick(q, fnv.Sum(key)), Made: true}) {
					t.Fatalf("%v: it stayed at %d: %+v", q, backend, a)
				}
			}
		}
	}
}

// R3: what Decide is handed is not changed, nor what stands behind it; and what it told stays as it was.
func TestDecideKeeps(t *testing.T) {
	p, ringed, other := unlike("k")
	for _, x := range []struct {
		name    string
		table   []api.Entry
		pool    []api.Backend
		closing bool
	}{
		{"known", on(flow("k", other, 9), tomb), p, false}, {"known, closing", on(flow("k", other, 9), flow("k", other, 9)), p, true},
		{"made", on(free, tomb), p, false}, {"closing, and not there", on(free, tomb), p, true}, {"late", on(flow("k", ringed, 1), flow("k", ringed, 1)), p, false},
		{"no backends", on(flow("k", other, 9), free), nil, false}, {"full", on(flow("x", 3, 1), flow("y", 3, 1)), p, false}, {"tidied", on(flow("k", 3, 9), tomb), p, true},
	} {
		whole := append(slices.Clone(x.table), flow("behind", 1, 1), free)
		rest, pool := slices.Clone(whole), append(slices.Clone(x.pool), b(99, 9))
		table := whole[:2]
		u, a := holdDecide(t, table, pool[:len(x.pool)], "k", x.closing, 5, 5)
		if !slices.Equal(whole, rest) || pool[len(x.pool)] != b(99, 9) {
			t.Errorf("%s: changed: %v %v", x.name, whole, pool)
		}
		told := slices.Clone(u)
		clear(whole)
		clear(pool)
		if !slices.Equal(u, told) {
			t.Errorf("%s: what was told hangs on what was handed in: %v", x.name, u)
		}
		copy(whole, rest)
		copy(pool, x.pool)
		v, again := holdDecide(t, table, pool[:len(x.pool)], "k", x.closing, 5, 5)
		if clear(v[:cap(v)]); again != a || !slices.Equal(u, told) || !slices.Equal(whole, rest) {
			t.Errorf("%s: %+v %v, behind it %+v %v", x.name, a, u, again, whole)
		}
	}
}
