package sweep

import (
	"maps"
	"math"
	"slices"
	"strconv"
	"strings"
	"testing"

	"gangplank/api"
	"gangplank/flows"
	"gangplank/probe"
)

// odd is States that are none of the three.
var odd = []int{3, 9, 255, 256, 257, -1, -2, 1 << 32, 1<<32 + 1, 1<<32 + 2, math.MaxInt, math.MinInt}

// numbers is places, numbers and times at which something might go wrong.
var numbers = []int{math.MinInt, math.MinInt + 1, -1 << 32, -65, -2, -1, 0, 1, 2, 3, 4, 5, 6, 7, 8, 9, 63, 64, 65, 1 << 31, 1 << 32, math.MaxInt - 1, math.MaxInt}

// tomb is a Tomb in which nothing else stands.
var tomb = api.Entry{State: 2}

// free is an Empty entry.
var free = api.Entry{}

// flow is a Live entry.
func flow(key string, deadline int) api.Entry {
	return api.Entry{State: 1, Key: key, Backend: 7, Deadline: deadline}
}

// on is a row of entries.
func on(entries ...api.Entry) []api.Entry { return entries }

// times is n entries that are alike.
func times(n int, e api.Entry) []api.Entry { return slices.Repeat(on(e), n) }

// with is a table with another entry at some places.
func with(t []api.Entry, e api.Entry, places ...int) []api.Entry {
	u := slices.Clone(t)
	for _, at := range places {
		u[at] = e
	}
	return u
}

// keysAt is several keys whose ways begin at a place of a table of n entries.
func keysAt(t testing.TB, home, n, many int) []string {
	t.Helper()
	var keys []string
	for i := range 100000 {
		key := "key" + strconv.Itoa(i)
		if probe.Home(key, n) == home {
			keys = append(keys, key)
		}
		if len(keys) == many {
			return keys
		}
	}
	t.Fatalf("too few keys whose ways begin at %d of %d", home, n)
	return nil
}

// homely is a table of n flows, each at the place at which its key's way begins, and with the place as its Deadline.
func homely(t testing.TB, n int) []api.Entry {
	t.Helper()
	table := make([]api.Entry, n)
	for at := range table {
		table[at] = flow(keysAt(t, at, n, 1)[0], at)
	}
	return table
}

// tables tells all tables of n entries out of these.
func tables(n int, of []api.Entry, told func(t []api.Entry)) {
	t := make([]api.Entry, n)
	var fill func(i int)
	fill = func(i int) {
		if i == n {
			told(t)
			return
		}
		for _, e := range of {
			t[i] = e
			fill(i + 1)
		}
	}
	fill(0)
}

// looked is the places that the chapter's sentence tells to look at, and the place that is told behind them.
func looked(size, from, n int) ([]int, int) {
	var row []int
	for range 2 {
		for at := range size {
			row = append(row, at)
		}
	}
	if from < 0 || from > size-1 {
		from = 0
	}
	if n < 0 {
		n = 0
	}
	if n > size {
		n = size
	}
	row = row[from : from+n]
	switch {
	case size == 0:
		return nil, 0
	case n == 0:
		return nil, from
	case row[n-1] == size-1:
		return row, 0
	}
	return row, row[n-1] + 1
}

// wantStep is Step by the chapter's own sentence.
func wantStep(t []api.Entry, from, n, now int) ([]api.Entry, int, int) {
	row, next := looked(len(t), from, n)
	u, due, tombs := slices.Clone(t), 0, 0
	for _, at := range row {
		if t[at].State == 1 && t[at].Deadline < now {
			u[at] = api.Entry{State: 2}
			due++
		}
	}
	for _, e := range u {
		if e.State == 2 {
			tombs++
		}
	}
	if float64(tombs) > float64(len(t))/2 && due != 0 {
		u = flows.Tidy(u)
	}
	return u, next, due
}

// found is what each key that stands in a table tells, of those that are found.
func found(t []api.Entry) map[string]api.Entry {
	m := map[string]api.Entry{}
	for _, e := range t {
		if at := probe.Find(t, e.Key); at != -1 {
			m[e.Key] = t[at]
		}
	}
	return m
}

// holdStep holds Step against the chapter's sentence, and against what holds; it tells what Step tells.
func holdStep(t *testing.T, table []api.Entry, from, n, now int) ([]api.Entry, int, int) {
	t.Helper()
	was := slices.Clone(table)
	want, wantNext, wantDue := wantStep(table, from, n, now)
	u, next, due := Step(table, from, n, now)
	if !slices.Equal(u, want) || next != wantNext || due != wantDue {
		t.Fatalf("Step %v %d %d %d: %v %d %d, not %v %d %d", was, from, n, now, u, next, due, want, wantNext, wantDue)
	}
	if !slices.Equal(table, was) {
		t.Fatalf("Step %v %d %d %d: changed to %v", was, from, n, now, table)
	}
	if flows.Right(table) && len(table) <= api.MaxCapacity {
		m := found(table)
		row, _ := looked(len(table), from, n)
		for _, at := range row {
			if e := table[at]; e.State == api.Live && e.Deadline < now {
				delete(m, e.Key)
			}
		}
		if !maps.Equal(found(u), m) || !flows.Right(u) || probe.Count(u, api.Live) != len(m) || len(u) != len(table) {
			t.Fatalf("Step %v %d %d %d: %v: not %v", was, from, n, now, u, m)
		}
	}
	return u, next, due
}

// holdAll holds All against Step of 0 and of all places.
func holdAll(t *testing.T, table []api.Entry, now int) ([]api.Entry, int) {
	t.Helper()
	was := slices.Clone(table)
	want, _, wantDue := holdStep(t, table, 0, len(table), now)
	u, due := All(table, now)
	if !slices.Equal(u, want) || due != wantDue || !slices.Equal(table, was) {
		t.Fatalf("All %v %d: %v %d, not %v %d", was, now, u, due, want, wantDue)
	}
	for _, e := range u {
		if Due(e, now) {
			t.Fatalf("All %v %d: %v is left", was, now, e)
		}
	}
	return u, due
}

// P2: the chapter's example.
func TestExamples(t *testing.T) {
	table, err := flows.Put(flows.New(1), "a", 5, 3)
	if err != api.OK {
		t.Fatal(err)
	}
	if u, due := All(table, 3); due != 0 || !slices.Equal(u, table) || probe.Find(u, "a") != 0 {
		t.Error(u, due)
	}
	// The one Tomb stands in more than half of the places: so the table is tidied.
	if u, due := All(table, 4); due != 1 || !slices.Equal(u, on(free)) || probe.Find(u, "a") != -1 {
		t.Error(u, due)
	}
	if !slices.Equal(table, on(api.Entry{State: 1, Key: "a", Backend: 5, Deadline: 3})) {
		t.Error(table)
	}
}

// P2: Due at each State, and at Deadlines that are less than now, equal to it, and more.
func TestDue(t *testing.T) {
	for _, x := range []struct {
		deadline, now int
		want          bool
	}{
		{0, 0, false}, {0, 1, true}, {1, 0, false}, {-1, 0, true}, {0, -1, false}, {-1, -1, false}, {-2, -1, true}, {-1, -2, false},
		{99, 100, true}, {100, 100, false}, {101, 100, false},
		{1 << 32, 1<<32 + 1, true}, {1 << 32, 1, false}, {0, 1 << 32, true}, {1<<53 + 1, 1 << 53, false}, {1 << 53, 1<<53 + 1, true},
		{math.MaxInt, math.MaxInt, false}, {math.MaxInt - 1, math.MaxInt, true}, {math.MaxInt, math.MaxInt - 1, false},
		{math.MinInt, math.MinInt, false}, {math.MinInt, math.MinInt + 1, true}, {math.MinInt + 1, math.MinInt, false},
		{math.MinInt, math.MaxInt, true}, {math.MaxInt, math.MinInt, false},
		{math.MinInt, 0, true}, {math.MinInt, 1, true}, {math.MaxInt, 0, false}, {math.MaxInt, -1, false}, {math.MaxInt, -2, false}, {-2, math.MaxInt, true},
		{1, math.MinInt, false}, {0, math.MinInt, false}, {0, math.MaxInt, true},
	} {
		for _, key := range []string{"", "k", "\x00\xff"} {
			for _, backend := range []int{0, 7, -1, math.MaxInt} {
				e := api.Entry{State: api.Live, Key: key, Backend: backend, Deadline: x.deadline}
				if Due(e, x.now) != x.want {
					t.Errorf("%v at %d", e, x.now)
				}
				for _, state := range append([]int{api.Empty, api.Tomb}, odd...) {
					e.State = state
					if Due(e, x.now) {
						t.Errorf("%v at %d", e, x.now)
					}
				}
			}
		}
	}
	if Due(api.Entry{}, 1) || Due(api.Entry{}, math.MaxInt) || !Due(api.Entry{State: 1}, 1) {
		t.Error("of nothing")
	}
}

// P1, P2: Due at all these times.
func TestDueOfNumbers(t *testing.T) {
	for i, deadline := range numbers {
		for k, now := range numbers {
			// The numbers stand in order: so their places tell which one is less.
			if Due(flow("k", deadline), now) != (i < k) {
				t.Error(deadline, now)
			}
		}
	}
}

// P1, P2: of a table of no entries nothing is due, and 0 is told.
func TestNoEntries(t *testing.T) {
	for _, table := range [][]api.Entry{nil, {}, flows.New(0), times(5, flow("k", 0))[:0]} {
		for _, from := range numbers {
			for _, n := range numbers {
				for _, now := range []int{math.MinInt, -1, 0, 9, math.MaxInt} {
					if u, next, due := holdStep(t, table, from, n, now); len(u) != 0 || next != 0 || due != 0 {
						t.Errorf("%d %d %d: %v %d %d", from, n, now, u, next, due)
					}
				}
			}
		}
		for _, now := range numbers {
			if u, due := All(table, now); len(u) != 0 || due != 0 {
				t.Error(u, due)
			}
		}
	}
}

// P2: which places are looked at, and which one is told behind them.
func TestPlaces(t *testing.T) {
	for _, x := range []struct {
		name    string
		from, n int
		places  []int
		next    int
	}{
		{"from the first one, one", 0, 1, []int{0}, 1},
		{"from the first one, some", 0, 3, []int{0, 1, 2}, 3},
		{"from the first one, all but one", 0, 5, []int{0, 1, 2, 3, 4}, 5},
		{"from the first one, all", 0, 6, []int{0, 1, 2, 3, 4, 5}, 0},
		{"from one between, one", 3, 1, []int{3}, 4},
		{"from one between, up to the last one but one", 2, 3, []int{2, 3, 4}, 5},
		{"from one between, up to the last one", 2, 4, []int{2, 3, 4, 5}, 0},
		{"from one between, around", 4, 3, []int{4, 5, 0}, 1},
		{"from one between, around, all but one", 3, 5, []int{3, 4, 5, 0, 1}, 2},
		{"from one between, all", 3, 6, []int{0, 1, 2, 3, 4, 5}, 3},
		{"from the last one but one, one", 4, 1, []int{4}, 5},
		{"from the last one, one", 5, 1, []int{5}, 0},
		{"from the last one, two", 5, 2, []int{5, 0}, 1},
		{"from the last one, all", 5, 6, []int{0, 1, 2, 3, 4, 5}, 5},
		{"from the one behind the last one", 6, 2, []int{0, 1}, 2},
		{"from farther behind", 7, 2, []int{0, 1}, 2},
		{"from far behind", 14, 1, []int{0}, 1},
		{"from the greatest number", math.MaxInt, 2, []int{0, 1}, 2},
		{"from the greatest number, all", math.MaxInt, math.MaxInt, []int{0, 1, 2, 3, 4, 5}, 0},
		{"from one below 0", -1, 2, []int{0, 1}, 2},
		{"from farther below 0", -5, 3, []int{0, 1, 2}, 3},
		{"from the lowest number", math.MinInt, 1, []int{0}, 1},
		{"from the lowest number, the lowest number", math.MinInt, math.MinInt, nil, 0},
		{"none", 0, 0, nil, 0},
		{"none, from one between", 3, 0, nil, 3},
		{"none, from the last one", 5, 0, nil, 5},
		{"none, from the one behind the last one", 6, 0, nil, 0},
		{"none, from one below 0", -1, 0, nil, 0},
		{"below 0", 3, -1, nil, 3},
		{"below 0, from the last one", 5, -6, nil, 5},
		{"below 0, from the one behind the last one", 6, -1, nil, 0},
		{"below 0, from one below 0", -3, -3, nil, 0},
		{"the lowest number", 4, math.MinInt, nil, 4},
		{"one more than there are", 0, 7, []int{0, 1, 2, 3, 4, 5}, 0},
		{"one more than there are, from one between", 2, 7, []int{0, 1, 2, 3, 4, 5}, 2},
		{"twice as many as there are", 5, 12, []int{0, 1, 2, 3, 4, 5}, 5},
		{"the greatest number", 0, math.MaxInt, []int{0, 1, 2, 3, 4, 5}, 0},
		{"the greatest number, from one between", 4, math.MaxInt, []int{0, 1, 2, 3, 4, 5}, 4},
	} {
		table := homely(t, 6)
		u, next, due := holdStep(t, table, x.from, x.n, 6)
		want := with(table, tomb, x.places...)
		if 2*len(x.places) > 6 {
			want = with(table, free, x.places...)
		}
		if !slices.Equal(u, want) || next != x.next || due != len(x.places) {
			t.Errorf("%s: %v %d %d, not %v %d", x.name, u, next, due, want, x.next)
		}
		// Where none is due the same place is told, and the table stays.
		if u, next, due := holdStep(t, table, x.from, x.n, 0); !slices.Equal(u, table) || next != x.next || due != 0 {
			t.Errorf("%s: %v %d %d", x.name, u, next, due)
		}
	}
}

// P2: a table of one entry, whose place follows itself.
func TestOneEntry(t *testing.T) {
	for _, from := range numbers {
		for _, n := range numbers {
			u, next, due := holdStep(t, on(flow("k", 3)), from, n, 4)
			want, wantDue := on(free), 1
			if n < 1 {
				want, wantDue = on(flow("k", 3)), 0
			}
			if !slices.Equal(u, want) || next != 0 || due != wantDue {
				t.Errorf("%d %d: %v %d %d", from, n, u, next, due)
			}
		}
	}
	for _, state := range append([]int{api.Empty, api.Tomb}, odd...) {
		table := on(api.Entry{State: state, Key: "k", Backend: 2, Deadline: 3})
		if u, next, due := holdStep(t, table, 0, 1, 4); !slices.Equal(u, table) || next != 0 || due != 0 {
			t.Errorf("%d: %v %d %d", state, u, next, due)
		}
	}
}

// P2: what is due becomes a Tomb with nothing else in it; all other entries stay as they are, whatever they hold.
func TestTombs(t *testing.T) {
	stay := on(
		api.Entry{State: 0, Key: "e", Backend: 1, Deadline: 1}, api.Entry{State: 2, Key: "t", Backend: 2, Deadline: 2},
		api.Entry{State: 3, Key: "o", Backend: 3, Deadline: 3}, api.Entry{State: -1, Key: "", Backend: -3, Deadline: math.MinInt},
		flow("l", 10), flow("m", 11), flow("n", math.MaxInt), free, flow("", 10),
	)
	gone := on(flow("a", 9), flow("", -1), api.Entry{State: 1}, api.Entry{State: 1, Key: "z", Backend: math.MinInt, Deadline: math.MinInt})
	for at := range len(stay) + 1 {
		for _, e := range gone {
			table := slices.Insert(slices.Clone(stay), at, e)
			u, next, due := holdStep(t, table, 0, 10, 10)
			if want := slices.Insert(slices.Clone(stay), at, tomb); !slices.Equal(u, want) || next != 0 || due != 1 {
				t.Errorf("%d: %v: %v %d %d", at, e, u, next, due)
			}
			if u, next, due := holdStep(t, table, at, 1, 10); u[at] != tomb || next != (at+1)%10 || due != 1 {
				t.Errorf("%d: %v: %v %d %d", at, e, u, next, due)
			}
			// All places but the one at which it stands.
			if u, next, due := holdStep(t, table, (at+1)%10, 9, 10); !slices.Equal(u, table) || next != at || due != 0 {
				t.Errorf("%d: %v: %v %d %d", at, e, u, next, due)
			}
		}
	}
}

// P2: just as many Tombs as half of the places leave the table untidied; one more, and it is tidied.
func TestHalf(t *testing.T) {
	for n := 1; n <= 64; n++ {
		table := homely(t, n)
		for now := range n + 1 {
			u, due := holdAll(t, table, now)
			want := tomb
			if 2*now > n {
				want = free
			}
			for at, e := range u {
				if at < now && e != want || at >= now && e != table[at] {
					t.Fatalf("%d of %d: %v", now, n, u)
				}
			}
			if due != now {
				t.Fatalf("%d of %d: %d", now, n, due)
			}
		}
	}
}

// P2: the Tombs that stood there are counted with the new ones, also those that were not looked at; other States are not.
func TestHalfOfOlderTombs(t *testing.T) {
	table := homely(t, 6)
	for _, x := range []struct {
		name    string
		tombs   []int
		from, n int
		now     int
		tidied  bool
	}{
		{"two, and the third one", []int{4, 5}, 0, 1, 1, false},
		{"two, and two more", []int{4, 5}, 0, 2, 2, true},
		{"three, and the fourth one", []int{3, 4, 5}, 0, 1, 1, true},
		{"three, and none", []int{3, 4, 5}, 0, 1, 0, false},
		{"five, and the last one", []int{1, 2, 3, 4, 5}, 0, 6, 1, true},
		{"five, and none", []int{1, 2, 3, 4, 5}, 0, 6, 0, false},
		{"five, and none that was looked at", []int{1, 2, 3, 4, 5}, 1, 5, 6, false},
		{"five, and none looked at", []int{1, 2, 3, 4, 5}, 0, 0, 6, false},
		{"six", []int{0, 1, 2, 3, 4, 5}, 0, 6, 6, false},
	} {
		old := with(table, tomb, x.tombs...)
		u, _, due := holdStep(t, old, x.from, x.n, x.now)
		if x.tidied != (probe.Count(u, api.Tomb) == 0) || (due == 0) != slices.Equal(u, old) {
			t.Errorf("%s: %v %d", x.name, u, due)
		}
	}
	for _, state := range odd {
		old := with(table, api.Entry{State: state, Key: "o"}, 2, 3, 4, 5)
		want := with(old, tomb, 0, 1)
		if u, due := holdAll(t, old, 2); !slices.Equal(u, want) || due != 2 {
			t.Errorf("%d: %v %d", state, u, due)
		}
		old = with(with(table, api.Entry{State: state, Key: "o"}, 4), tomb, 2, 3)
		if u, due := holdAll(t, old, 2); !slices.Equal(u, with(times(6, free), table[5], 5)) || due != 2 {
			t.Errorf("%d: %v %d", state, u, due)
		}
	}
}

// P2: Tombs that hold something are Tombs, and go when the table is tidied.
func TestHalfOfFullTombs(t *testing.T) {
	full := api.Entry{State: 2, Key: "t", Backend: 3, Deadline: 4}
	table := with(homely(t, 5), full, 0, 4)
	if u, due := holdAll(t, table, 1); !slices.Equal(u, table) || due != 0 {
		t.Error(u, due)
	}
	if u, due := holdAll(t, table, 2); !slices.Equal(u, with(table, free, 0, 1, 4)) || due != 1 {
		t.Error(u, due)
	}
}

// P2: a flow that had to stand away from its home is found behind those that are gone, in a table that is tidied and in one that is not.
func TestFoundBehind(t *testing.T) {
	for home := range 6 {
		keys := keysAt(t, home, 6, 5)
		table := flows.New(6)
		for i, key := range keys {
			table, _ = flows.Put(table, key, i, 10*i)
		}
		for now := range 50 {
			u, due := holdAll(t, table, now)
			gone := (now + 9) / 10
			if due != gone {
				t.Fatalf("%d: %d", now, due)
			}
			for i, key := range keys {
				at, want := probe.Find(u, key), (home+i)%6
				if 2*gone > 6 {
					want = (home + i - gone) % 6
				}
				if i < gone && at != -1 || i >= gone && (at != want || u[at] != api.Entry{State: 1, Key: key, Backend: i, Deadline: 10 * i}) {
					t.Fatalf("%d: %q at %d of %v", now, key, at, u)
				}
			}
		}
	}
}

// P2: in a table that is tidied the place stays the one behind what was looked at, though flows may have gone elsewhere.
func TestPlaceOfTidied(t *testing.T) {
	keys := keysAt(t, 0, 4, 4)
	table := on(flow(keys[0], 1), flow(keys[1], 1), flow(keys[2], 1), flow(keys[3], 9))
	u, next, due := holdStep(t, table, 0, 3, 5)
	if !slices.Equal(u, on(flow(keys[3], 9), free, free, free)) || next != 3 || due != 3 {
		t.Error(u, next, due)
	}
	u, next, due = holdStep(t, with(table, tomb, 0, 1), 2, 1, 5)
	if !slices.Equal(u, on(flow(keys[3], 9), free, free, free)) || next != 3 || due != 1 {
		t.Error(u, next, due)
	}
}

// P1, P2: keys that stand twice are looked at place by place, and nothing else is looked for.
func TestTwice(t *testing.T) {
	table := on(flow("k", 1), flow("k", 5), free, flow("k", 2), flow("k", 1), flow("o", 9), free, free)
	if u, next, due := holdStep(t, table, 3, 2, 3); !slices.Equal(u, with(table, tomb, 3, 4)) || next != 5 || due != 2 {
		t.Error(u, next, due)
	}
	if u, next, due := holdStep(t, table, 1, 1, 3); !slices.Equal(u, table) || next != 2 || due != 0 {
		t.Error(u, next, due)
	}
	if u, due := holdAll(t, table, 3); !slices.Equal(u, with(table, tomb, 0, 3, 4)) || due != 3 {
		t.Error(u, due)
	}
	// Tidied, a key stands once, with what its last place told.
	table = append(times(5, flow("k", 1)), flow("k", 8), flow("k", 7), free)
	if u, due := holdAll(t, table, 3); due != 5 || probe.Count(u, api.Live) != 1 || u[probe.Home("k", 8)] != flow("k", 7) || !flows.Right(u) {
		t.Error(u, due)
	}
}

// P1, P2: of a table of more than 64 entries all places are looked at; one that is tidied has 64, and the flows that find room there.
func TestLongTables(t *testing.T) {
	for _, n := range []int{65, 66, 100, 127, 128, 500} {
		table := make([]api.Entry, n)
		for i := range table {
			table[i] = flow("flow"+strconv.Itoa(i), i)
		}
		for _, now := range []int{math.MinInt, 0, 1, 63, 64, 65, n/2 - 1, n / 2, n/2 + 1, n - 64, n - 1, n, math.MaxInt} {
			gone := min(max(now, 0), n)
			u, due := holdAll(t, table, now)
			if due != gone {
				t.Errorf("%d, at %d: %d", n, now, due)
			}
			if 2*gone <= n {
				if !slices.Equal(u[:gone], times(gone, tomb)) || !slices.Equal(u[gone:], table[gone:]) {
					t.Errorf("%d, at %d: %v", n, now, u)
				}
				continue
			}
			if len(u) != 64 || probe.Count(u, api.Tomb) != 0 || probe.Count(u, api.Live) != min(64, n-gone) || !flows.Right(u) {
				t.Errorf("%d, at %d: %v", n, now, u)
			}
			for i := gone; i < min(n, gone+64); i++ {
				if at := probe.Find(u, table[i].Key); at == -1 || u[at] != table[i] {
					t.Errorf("%d, at %d: %d at %d", n, now, i, at)
				}
			}
		}
		for _, from := range []int{-1, 0, 1, 63, 64, 65, n - 1, n, n + 1} {
			for _, k := range []int{-1, 0, 1, 2, 63, 64, 65, n/2 + 1, n - 1, n, n + 1, math.MaxInt} {
				holdStep(t, table, from, k, 0)
				holdStep(t, table, from, k, n/2)
				holdStep(t, table, from, k, n)
			}
		}
	}
}

// P2: the place that is told is one of the table that was handed in, also where the tidied one is shorter.
func TestPlaceOfLongTables(t *testing.T) {
	table := with(times(100, tomb), flow("k", 1), 90)
	if u, next, due := holdStep(t, table, 88, 4, 2); len(u) != 64 || next != 92 || due != 1 {
		t.Error(len(u), next, due)
	}
	if u, next, due := holdStep(t, table, 96, 100, 2); len(u) != 64 || next != 96 || due != 1 {
		t.Error(len(u), next, due)
	}
	if u, next, due := holdStep(t, table, 91, 99, 2); len(u) != 100 || next != 90 || due != 0 {
		t.Error(len(u), next, due)
	}
}

// P1: a table that is longer than any balancer's, at the greatest numbers.
func TestVeryLongTables(t *testing.T) {
	const n = 1 << 16
	table := make([]api.Entry, n)
	for i := range table {
		table[i] = flow("k"+strconv.Itoa(i%5), i%2)
	}
	if u, next, due := Step(table, n-1, math.MaxInt, 1); len(u) != n || next != n-1 || due != n/2 || probe.Count(u, api.Tomb) != n/2 {
		t.Error(len(u), next, due)
	}
	if u, due := All(table, 2); len(u) != 64 || due != n || !slices.Equal(u, times(64, free)) {
		t.Error(len(u), due)
	}
	if u, next, due := Step(table, math.MaxInt, 3, math.MaxInt); len(u) != n || next != 3 || due != 3 {
		t.Error(len(u), next, due)
	}
}

// P1, P2: all these numbers at tables of several kinds.
func TestNumbers(t *testing.T) {
	kinds := [][]api.Entry{
		homely(t, 4), homely(t, 7), times(5, tomb), times(5, free), with(homely(t, 8), tomb, 0, 2, 4, 6), with(homely(t, 8), tomb, 0, 2, 4, 6, 7),
		times(6, flow("k", math.MinInt)), times(6, flow("k", math.MaxInt)), times(70, flow("k", 0)), with(homely(t, 64), tomb, 3, 60),
		{{State: 9, Key: "k"}, flow("k", 0), {State: math.MinInt}, flow("o", -1), {State: math.MaxInt, Deadline: math.MinInt}},
	}
	for _, table := range kinds {
		for _, now := range numbers {
			for _, from := range numbers {
				for _, n := range numbers {
					holdStep(t, table, from, n, now)
				}
			}
			holdAll(t, table, now)
		}
	}
}

// P1, P2, R3: all small tables of entries of all kinds, from all places, of all numbers.
func TestAllSmallTables(t *testing.T) {
	for size := 1; size <= 4; size++ {
		for home := range size {
			keys := keysAt(t, home, size, 2)
			of := on(free, flow(keys[0], 1), flow(keys[0], 2), flow(keys[1], 2), flow(keys[1], 3), tomb, api.Entry{State: 3, Key: keys[0]})
			tables(size, of, func(table []api.Entry) {
				for from := -1; from <= size; from++ {
					for n := -1; n <= size+1; n++ {
						holdStep(t, table, from, n, 2)
						holdStep(t, table, from, n, 3)
					}
				}
				holdAll(t, table, 2)
				holdAll(t, table, 9)
			})
		}
	}
}

// P2: who steps on from the place that was told, looks at all places in turn, and takes out all that is due.
func TestStepsAround(t *testing.T) {
	for _, size := range []int{1, 2, 3, 4, 5, 7, 8, 9, 16, 63, 64} {
		for _, n := range []int{1, 2, 3, 4, 5, 64} {
			// Half of the flows are due: that is not more than half of the places.
			table := homely(t, size)
			for at := range table {
				table[at].Deadline = at % 2
			}
			table = with(table, free, 0)
			place, sum := 0, 0
			for i := 0; i < size; i += n {
				var due int
				table, place, due = holdStep(t, table, place, n, 1)
				if sum += due; place != (i+min(n, size))%size {
					t.Fatalf("%d by %d: %d", size, n, place)
				}
			}
			if sum != (size-1)/2 || probe.Count(table, api.Live) != size/2 {
				t.Errorf("%d by %d: %d, %v", size, n, sum, table)
			}
		}
	}
}

// P2: what holds, of long rows of flows that come and go as time goes on; a map tells what is to be found.
func TestLongRows(t *testing.T) {
	seed := uint64(1)
	next := func(n int) int {
		seed = seed*6364136223846793005 + 1442695040888963407
		return int(seed >> 33 % uint64(n))
	}
	for _, n := range []int{1, 2, 3, 4, 5, 7, 8, 16, 33, 64} {
		table, place, want := flows.New(n), 0, map[string]api.Entry{}
		for now := range 1500 {
			switch kind := next(20); {
			case kind < 13:
				key, deadline := "flow"+strconv.Itoa(next(n+n/2+1)), now+next(2*n+3)
				u, err := flows.Put(table, key, 7, deadline)
				if table = u; err == api.OK {
					want[key] = flow(key, deadline)
				}
			case kind < 19:
				row, _ := looked(n, place, api.Batch)
				for _, at := range row {
					if table[at].State == api.Live && table[at].Deadline < now {
						delete(want, table[at].Key)
					}
				}
				table, place, _ = holdStep(t, table, place, api.Batch, now)
			default:
				u, due := holdAll(t, table, now)
				was := len(want)
				maps.DeleteFunc(want, func(_ string, e api.Entry) bool { return e.Deadline < now })
				if table = u; due != was-len(want) {
					t.Fatalf("%d: %d, not %d", n, due, was-len(want))
				}
			}
			if !maps.Equal(found(table), want) || !flows.Right(table) || probe.Count(table, api.Live) != len(want) || len(table) != n {
				t.Fatalf("%d: %v, not %v", n, table, want)
			}
		}
	}
}

// spare is a table with entries behind it that are none of it; the whole one has them, too.
func spare() (table, whole []api.Entry) {
	whole = on(flow("a", 1), free, tomb, api.Entry{State: 9, Key: "k"}, flow("k", 2), flow("b", 3), tomb, flow("behind", 1), free)
	return whole[:7], whole
}

// R3: a table that is handed in is changed by no call, nor is what stands behind it; that is not looked at either.
func TestArgumentsStay(t *testing.T) {
	table, whole := spare()
	_, was := spare()
	for from := range len(table) {
		for to := from; to <= len(table); to++ {
			part := table[from:to]
			for now := range 5 {
				for at := -1; at <= len(part)+1; at++ {
					for n := range len(part) + 3 {
						if u, _, due := holdStep(t, part, at, n, now); len(u) != len(part) || due > len(part) {
							t.Error(u, due)
						}
					}
				}
				holdAll(t, part, now)
				for _, e := range part {
					Due(e, now)
				}
				if !slices.Equal(whole, was) {
					t.Fatalf("%d to %d: %v", from, to, whole)
				}
			}
		}
	}
}

// R3: an answer that was told is changed by no later call, and shares nothing with what was handed in.
func TestAnswersStay(t *testing.T) {
	answers := map[string]func(t []api.Entry) []api.Entry{
		"Step":           func(t []api.Entry) []api.Entry { u, _, _ := Step(t, 0, 4, 2); return u },
		"Step, none due": func(t []api.Entry) []api.Entry { u, _, _ := Step(t, 0, 4, 0); return u },
		"Step of none":   func(t []api.Entry) []api.Entry { u, _, _ := Step(t, 0, 0, 9); return u },
		"Step of a part": func(t []api.Entry) []api.Entry { u, _, _ := Step(t[:3], 0, 4, 2); return u },
		"Step, tidied":   func(t []api.Entry) []api.Entry { u, _, _ := Step(t, 0, 4, 9); return u },
		"All":            func(t []api.Entry) []api.Entry { u, _ := All(t, 2); return u },
		"All, none due":  func(t []api.Entry) []api.Entry { u, _ := All(t, 1); return u },
		"All, tidied":    func(t []api.Entry) []api.Entry { u, _ := All(t, 9); return u },
	}
	for name, call := range answers {
		table := on(flow("a", 1), tomb, free, flow("b", 5))
		was := slices.Clone(table)
		u := call(table)
		told := slices.Clone(u)
		for now := range 10 {
			Step(u, 0, 4, now)
			Step(table, 0, 4, now)
			All(u, now)
			All(table, now)
		}
		if !slices.Equal(u, told) || !slices.Equal(table, was) {
			t.Errorf("%s: %v %v", name, u, table)
		}
		// Its owner may do as he likes with either of them.
		clear(table)
		if !slices.Equal(u, told) {
			t.Errorf("%s: %v, not %v", name, u, told)
		}
		table = slices.Clone(was)
		u = call(table)
		clear(u[:cap(u)])
		if !slices.Equal(table, was) {
			t.Errorf("%s: %v, not %v", name, table, was)
		}
	}
}

// R4: the same calls tell the same, whatever was asked between them.
func TestSameAgain(t *testing.T) {
	table, _ := spare()
	step, next, due := Step(table, 3, 6, 3)
	all, sum := All(table, 4)
	for i := range 30 {
		Step(table[i%7:], i, i, i)
		All(table[:i%7], i)
		u, n, d := Step(table, 3, 6, 3)
		v, s := All(table, 4)
		if !slices.Equal(u, step) || n != next || d != due || !slices.Equal(v, all) || s != sum || !Due(table[0], 2) || Due(table[0], 1) {
			t.Fatal("unlike")
		}
	}
}

// entries is a table out of bytes: their lower bits tell the States, their upper ones the Deadlines; some Keys stand twice.
func entries(s string, now int) []api.Entry {
	states := append([]int{api.Empty, api.Live, api.Tomb, api.Live}, odd...)
	var t []api.Entry
	for i := range len(s) {
		deadline := []int{now, now - 1, now + 1, i, math.MinInt, math.MaxInt}[(s[i]>>4)%6]
		t = append(t, api.Entry{State: states[s[i]%16], Key: "k" + strconv.Itoa(i*int(s[i])%50), Backend: i, Deadline: deadline})
	}
	return t
}

// P1, P2, R3 at tables and numbers that a fuzzer makes up; as a plain test at these seeds.
func FuzzSweep(f *testing.F) {
	f.Add("", 0, 0, 0)
	f.Add("\x11", 0, 1, 5)
	f.Add("\x11\x12\x01\x00\x11\x03", 4, 4, -1)
	f.Add("\x11\x11\x11\x11\x11\x11\x11", -1, math.MaxInt, math.MaxInt)
	f.Add("\x02\x12\x0d\x1c\x01\x31\x10\x01", math.MaxInt, math.MinInt, math.MinInt)
	f.Add(strings.Repeat("\x31\x02\x33\x02\x22\x11", 30), 65, 130, 65)
	f.Fuzz(func(t *testing.T, s string, from, n, now int) {
		s = s[:min(len(s), 200)]
		table := entries(s, now)
		holdStep(t, table, from, n, now)
		holdAll(t, table, now)
		// The same bytes as a row of steps, from a tidied table on.
		table = flows.Tidy(table)
		for i := range len(s) {
			if s[i]%4 == 0 {
				table, _ = flows.Put(table, "k"+strconv.Itoa(int(s[i]>>2)), i, now+int(s[i]>>4))
			}
			table, from, _ = holdStep(t, table, from, int(s[i]%8), now+i)
		}
		holdAll(t, table, from)
	})
}
