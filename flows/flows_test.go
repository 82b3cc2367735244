package flows

import (
	"maps"
	"math"
	"slices"
	"strconv"
	"strings"
	"testing"

	"gangplank/api"
	"gangplank/probe"
)

// odd is States that are none of the three.
var odd = []int{3, 9, 255, 256, 257, -1, -2, 1 << 32, 1<<32 + 1, 1<<32 + 2, math.MaxInt, math.MinInt}

// flow is a Live entry.
func flow(key string, backend, deadline int) api.Entry {
	return api.Entry{State: api.Live, Key: key, Backend: backend, Deadline: deadline}
}

// en is an entry of a state and a key, with numbers behind them.
func en(state int, key string) api.Entry {
	return api.Entry{State: state, Key: key, Backend: 7, Deadline: 99}
}

// lively is a Live entry of a key, with numbers behind it.
func lively(key string) api.Entry { return en(api.Live, key) }

// tomb is a Tomb in which nothing else stands.
var tomb = api.Entry{State: 2}

// on is a row of entries.
func on(entries ...api.Entry) []api.Entry { return entries }

// times is n entries that are alike.
func times(n int, e api.Entry) []api.Entry { return slices.Repeat(on(e), n) }

// with is a table with another entry at a place.
func with(t []api.Entry, at int, e api.Entry) []api.Entry {
	u := slices.Clone(t)
	u[at] = e
	return u
}

// keysAt is several keys whose ways begin at a place of a table of n entries.
func keysAt(t testing.TB, home, n, many int) []string {
	t.Helper()
	var keys []string
	for i := range 100000 {
		key := "key" + strconv.Itoa(i)
		if probe.Home(key, n) == home {
			keys = append(keys, key)
		}
		if len(keys) == many {
			return keys
		}
	}
	t.Fatalf("too few keys whose ways begin at %d of %d", home, n)
	return nil
}

// keyAt is one such key.
func keyAt(t testing.TB, home, n int) string {
	t.Helper()
	return keysAt(t, home, n, 1)[0]
}

// laid is a table in which these entries stand on the way of a key that begins at home.
func laid(home int, entries []api.Entry) []api.Entry {
	t := make([]api.Entry, len(entries))
	for i, e := range entries {
		t[(home+i)%len(entries)] = e
	}
	return t
}

// tables tells all tables of n entries out of these.
func tables(n int, of []api.Entry, told func(t []api.Entry)) {
	t := make([]api.Entry, n)
	var fill func(i int)
	fill = func(i int) {
		if i == n {
			told(t)
			return
		}
		for _, e := range of {
			t[i] = e
			fill(i + 1)
		}
	}
	fill(0)
}

// kinds is entries of all kinds that a way of a key may meet.
func kinds(key, other string) []api.Entry {
	return []api.Entry{{}, en(api.Empty, key), lively(key), lively(other), tomb, en(api.Tomb, key), en(3, key), en(-1, "o")}
}

// wantPut is Put by the chapter's own sentence.
func wantPut(t []api.Entry, key string, backend, deadline int) ([]api.Entry, api.Errno) {
	u := slices.Clone(t)
	at := probe.Find(t, key)
	if at == -1 {
		at = probe.Room(t, key)
	}
	if at == -1 {
		return u, 12
	}
	u[at] = api.Entry{State: 1, Key: key, Backend: backend, Deadline: deadline}
	return u, 0
}

// wantTidy is Tidy by the chapter's own sentence.
func wantTidy(t []api.Entry) []api.Entry {
	u := make([]api.Entry, min(len(t), 64))
	for _, e := range t {
		if e.State == 1 {
			u, _ = wantPut(u, e.Key, e.Backend, e.Deadline)
		}
	}
	return u
}

// wantDelete is Delete by the chapter's own sentence.
func wantDelete(t []api.Entry, key string) ([]api.Entry, bool) {
	at := probe.Find(t, key)
	if at == -1 {
		return slices.Clone(t), false
	}
	u, tombs := with(t, at, api.Entry{State: 2}), 0
	for _, e := range u {
		if e.State == 2 {
			tombs++
		}
	}
	if float64(tombs) > float64(len(u))/2 {
		u = wantTidy(u)
	}
	return u, true
}

// wantKeys is Keys by the chapter's own sentence.
func wantKeys(t []api.Entry) []string {
	var keys []string
	for _, e := range t {
		if e.State == 1 {
			keys = append(keys, e.Key)
		}
	}
	return keys
}

// wantRight is Right by the chapter's own sentence.
func wantRight(t []api.Entry) bool {
	wrong := 0
	for i, e := range t {
		if e.State == 1 && probe.Find(t, e.Key) != i {
			wrong++
		}
	}
	return wrong == 0
}

// found is what each key that stands in a table tells, of those that are found.
func found(t []api.Entry) map[string]api.Entry {
	m := map[string]api.Entry{}
	for _, e := range t {
		if at := probe.Find(t, e.Key); at != -1 {
			m[e.Key] = t[at]
		}
	}
	return m
}

// twice tells whether two Live entries have one key.
func twice(t []api.Entry) bool {
	keys := map[string]bool{}
	for _, e := range t {
		if e.State == 1 && keys[e.Key] {
			return true
		}
		keys[e.Key] = keys[e.Key] || e.State == 1
	}
	return false
}

// holdPut holds Put against the chapter's sentence, and against what holds; it tells the table.
func holdPut(t *testing.T, table []api.Entry, key string, backend, deadline int) []api.Entry {
	t.Helper()
	was := slices.Clone(table)
	want, wantErr := wantPut(table, key, backend, deadline)
	u, err := Put(table, key, backend, deadline)
	if err != wantErr || !slices.Equal(u, want) || !slices.Equal(table, was) {
		t.Fatalf("Put %v %q: %v %v, not %v %v", was, key, u, err, want, wantErr)
	}
	if err != api.OK {
		return u
	}
	if at := probe.Find(u, key); at == -1 || u[at] != flow(key, backend, deadline) {
		t.Fatalf("Put %v %q: %v: at %d", was, key, u, at)
	}
	if wantRight(table) {
		m := found(table)
		m[key] = flow(key, backend, deadline)
		holdFlows(t, u, m)
	}
	return u
}

// holdDelete holds Delete so, too.
func holdDelete(t *testing.T, table []api.Entry, key string) []api.Entry {
	t.Helper()
	was := slices.Clone(table)
	want, wantOk := wantDelete(table, key)
	u, ok := Delete(table, key)
	if ok != wantOk || !slices.Equal(u, want) || !slices.Equal(table, was) {
		t.Fatalf("Delete %v %q: %v %v, not %v %v", was, key, u, ok, want, wantOk)
	}
	if wantRight(table) && len(table) <= 64 {
		m := found(table)
		if _, stood := m[key]; stood != ok {
			t.Fatalf("Delete %v %q: %v", was, key, ok)
		}
		delete(m, key)
		holdFlows(t, u, m)
	}
	return u
}

// holdTidy holds Tidy so, too.
func holdTidy(t *testing.T, table []api.Entry) []api.Entry {
	t.Helper()
	was := slices.Clone(table)
	u := Tidy(table)
	if !slices.Equal(u, wantTidy(table)) || !slices.Equal(table, was) {
		t.Fatalf("Tidy %v: %v, not %v", was, u, wantTidy(table))
	}
	for _, e := range u {
		if e != (api.Entry{}) && e.State != api.Live {
			t.Fatalf("Tidy %v: %v", was, e)
		}
	}
	if !Right(u) || twice(u) {
		t.Fatalf("Tidy %v: %v", was, u)
	}
	if wantRight(table) && len(table) <= 64 {
		holdFlows(t, u, found(table))
	}
	return u
}

// holdFlows holds a table against what its flows are to be: these, each once, and all found.
func holdFlows(t *testing.T, table []api.Entry, want map[string]api.Entry) {
	t.Helper()
	if !maps.Equal(found(table), want) || !Right(table) || twice(table) || len(Keys(table)) != len(want) {
		t.Fatalf("%v: not %v", table, want)
	}
}

// holdAsked holds Right and Keys against the chapter's sentences.
func holdAsked(t *testing.T, table []api.Entry) {
	t.Helper()
	was := slices.Clone(table)
	if right := Right(table); right != wantRight(table) || right && twice(table) {
		t.Fatalf("Right %v: %v", table, right)
	}
	if keys := Keys(table); !slices.Equal(keys, wantKeys(table)) {
		t.Fatalf("Keys %v: %q", table, keys)
	}
	if !slices.Equal(table, was) {
		t.Fatalf("%v: %v", was, table)
	}
}

// holdAll holds all calls at a table and a key.
func holdAll(t *testing.T, table []api.Entry, key string) {
	t.Helper()
	holdAsked(t, table)
	holdPut(t, table, key, -5, 12)
	holdDelete(t, table, key)
	holdTidy(t, table)
}

// P2: the chapter's example.
func TestExamples(t *testing.T) {
	table := New(1)
	table, err := Put(table, "a", 1, 2)
	if err != api.OK || !slices.Equal(table, on(flow("a", 1, 2))) {
		t.Fatal(table, err)
	}
	full, err := Put(table, "b", 3, 4)
	if err != api.ErrTableFull || !slices.Equal(full, on(flow("a", 1, 2))) {
		t.Fatal(full, err)
	}
	table, ok := Delete(table, "a")
	if !ok || probe.Find(table, "a") != -1 || len(table) != 1 {
		t.Fatal(table, ok)
	}
	table, err = Put(table, "b", 3, 4)
	if err != api.OK || !slices.Equal(table, on(flow("b", 3, 4))) {
		t.Fatal(table, err)
	}
}

// P2: the error has the number that the chapter tells.
func TestErrors(t *testing.T) {
	if _, err := Put(nil, "k", 1, 1); err != 12 {
		t.Error(err)
	}
	if _, err := Put(New(1), "k", 1, 1); err != 0 {
		t.Error(err)
	}
}

// P1, P2: New, at its edges and beyond.
func TestNew(t *testing.T) {
	for _, x := range []struct{ n, want int }{
		{math.MinInt, 0}, {math.MinInt + 1, 0}, {-1 << 32, 0}, {-64, 0}, {-1, 0}, {0, 0},
		{1, 1}, {2, 2}, {3, 3}, {63, 63}, {64, 64}, {65, 64}, {66, 64}, {128, 64}, {256, 64}, {1 << 31, 64},
		{1 << 32, 64}, {1<<32 + 1, 64}, {math.MaxInt - 1, 64}, {math.MaxInt, 64},
	} {
		table := New(x.n)
		if len(table) != x.want || !slices.Equal(table, times(x.want, api.Entry{})) {
			t.Errorf("%d: %v", x.n, table)
		}
		holdAsked(t, table)
		if !Right(table) || len(Keys(table)) != 0 {
			t.Errorf("%d: flows", x.n)
		}
	}
	for n := range 100 {
		if table := New(n); len(table) != min(n, 64) || probe.Count(table, api.Empty) != len(table) {
			t.Errorf("%d: %v", n, table)
		}
	}
}

// R3: a table that was told is its owner's: what is done to it is not seen in the next one.
func TestNewIsNew(t *testing.T) {
	first := New(8)
	for i := range first {
		first[i] = lively("k")
	}
	second := New(8)
	if !slices.Equal(second, times(8, api.Entry{})) || !slices.Equal(first, times(8, lively("k"))) {
		t.Error(first, second)
	}
}

// P2: Right, where a flow is not found, or not where it stands.
func TestRight(t *testing.T) {
	for home := range 4 {
		keys := keysAt(t, home, 4, 2)
		k, o := lively(keys[0]), lively(keys[1])
		e := api.Entry{}
		for _, x := range []struct {
			name string
			on   []api.Entry
			want bool
		}{
			{"all Empty", on(e, e, e, e), true},
			{"Tombs alone", times(4, tomb), true},
			{"at home", on(k, e, e, e), true},
			{"at home, the other behind it", on(k, o, e, e), true},
			{"the other at home", on(o, k, e, e), true},
			{"behind a Tomb", on(tomb, k, e, e), true},
			{"behind Tombs, at the end", on(tomb, tomb, tomb, k), true},
			{"behind another State", on(en(9, keys[0]), k, e, e), true},
			{"behind an Empty one", on(e, k, e, e), false},
			{"behind an Empty one that has its Key", on(en(api.Empty, keys[0]), k, e, e), false},
			{"behind an Empty one, at the end", on(e, e, e, k), false},
			{"the second one behind an Empty one", on(k, e, o, e), false},
			{"the first one behind an Empty one", on(e, o, k, e), false},
			{"twice", on(k, k, e, e), false},
			{"twice, at both ends", on(k, o, tomb, k), false},
			{"twice, a Tomb ahead", on(tomb, k, k, o), false},
			{"twice, an Empty one between", on(k, e, k, o), false},
			{"everywhere", on(k, k, k, k), false},
			{"once, and as a Tomb", on(en(api.Tomb, keys[0]), k, e, e), true},
			{"once, and as another State, behind", on(k, en(3, keys[0]), e, e), true},
			{"once, and as an Empty one, behind", on(k, en(api.Empty, keys[0]), e, e), true},
			{"none, but as a Tomb behind an Empty one", on(e, en(api.Tomb, keys[0]), e, e), true},
		} {
			table := laid(home, x.on)
			if Right(table) != x.want {
				t.Errorf("%s, from %d on: %v", x.name, home, table)
			}
			holdAsked(t, table)
		}
	}
	if !Right(nil) || !Right([]api.Entry{}) {
		t.Error("of no entries")
	}
}

// P2: a table of one entry is right, whatever stands there.
func TestRightOfOne(t *testing.T) {
	for _, state := range append([]int{0, 1, 2}, odd...) {
		for _, key := range []string{"", "k", "\x00"} {
			if !Right(on(en(state, key))) {
				t.Error(state, key)
			}
			holdAll(t, on(en(state, key)), "k")
		}
	}
}

// P2: Keys, of Live entries alone, in the order of their places, as often as they stand there.
func TestKeys(t *testing.T) {
	for _, table := range [][]api.Entry{nil, {}, New(3), times(5, tomb), on(en(api.Empty, "k"), en(api.Tomb, "k"), en(3, "k"), en(-1, "k"))} {
		if keys := Keys(table); len(keys) != 0 {
			t.Errorf("%v: %q", table, keys)
		}
	}
	for _, state := range odd {
		if keys := Keys(on(en(state, "k"), lively("o"), en(state, "k"))); !slices.Equal(keys, []string{"o"}) {
			t.Errorf("%d: %q", state, keys)
		}
	}
	table := on(lively("z"), tomb, lively("a"), api.Entry{}, lively("m"), lively(""), en(9, "x"), lively("a"))
	if keys := Keys(table); !slices.Equal(keys, []string{"z", "a", "m", "", "a"}) {
		t.Errorf("%q", keys)
	}
	slices.Reverse(table)
	if keys := Keys(table); !slices.Equal(keys, []string{"a", "", "m", "a", "z"}) {
		t.Errorf("%q", keys)
	}
}

// A putCase is what stands on a key's way, and how far on it Put puts it; -1, if it tells ErrTableFull.
type putCase struct {
	name string
	on   []api.Entry
	at   int
}

// putCases is the edges that the chapter names, for a key and another one.
func putCases(key, other string) []putCase {
	k, o, e := lively(key), lively(other), api.Entry{}
	return []putCase{
		{"all Empty", on(e, e, e, e), 0},
		{"there, at home", on(k, o, e, e), 0},
		{"there, behind another", on(o, k, e, e), 1},
		{"there, at the end", on(o, o, o, k), 3},
		{"there, behind a Tomb", on(tomb, o, k, e), 2},
		{"there, behind Tombs, at the end", on(tomb, tomb, tomb, k), 3},
		{"there, twice", on(o, k, k, e), 1},
		{"there, everywhere", on(k, k, k, k), 0},
		{"behind an Empty one", on(o, e, k, o), 1},
		{"behind a Tomb and an Empty one", on(tomb, e, k, o), 0},
		{"not there, an Empty one at the end", on(o, o, o, e), 3},
		{"a Tomb ahead of the first Empty one", on(o, tomb, o, e), 1},
		{"a Tomb at home", on(tomb, o, e, e), 0},
		{"a Tomb behind the first Empty one", on(o, e, tomb, o), 1},
		{"a Tomb that has it", on(o, en(api.Tomb, key), o, e), 1},
		{"an Empty one that has it", on(o, o, en(api.Empty, key), e), 2},
		{"Tombs alone", times(4, tomb), 0},
		{"Tombs that have it alone", times(4, en(api.Tomb, key)), 0},
		{"Tombs and Live ones alone", on(o, o, tomb, o), 2},
		{"one Tomb, at the end", on(o, o, o, tomb), 3},
		{"another State ahead of a Tomb", on(o, en(9, key), tomb, e), 1},
		{"other States alone", times(4, en(-1, key)), 0},
		{"all are Live", on(o, o, o, o), -1},
	}
}

// P2: Put at each edge, on ways that begin at each place: those that begin at the last one go around.
func TestPut(t *testing.T) {
	for home := range 4 {
		keys := keysAt(t, home, 4, 2)
		for _, x := range putCases(keys[0], keys[1]) {
			table := laid(home, x.on)
			was := slices.Clone(table)
			u, err := Put(table, keys[0], 3, 44)
			want, wantErr := was, api.ErrTableFull
			if x.at >= 0 {
				want, wantErr = with(was, (home+x.at)%4, flow(keys[0], 3, 44)), api.OK
			}
			if err != wantErr || !slices.Equal(u, want) {
				t.Errorf("%s, from %d on: %v %v, not %v", x.name, home, u, err, want)
			}
			if !slices.Equal(table, was) {
				t.Errorf("%s, from %d on: changed", x.name, home)
			}
			holdAll(t, table, keys[0])
			holdAll(t, table, keys[1])
		}
	}
}

// P1, P2: there is no room in a table of no entries.
func TestNoEntries(t *testing.T) {
	for _, table := range [][]api.Entry{nil, {}, New(0), New(-1), make([]api.Entry, 0, 5)} {
		for _, key := range []string{"", "a", "\x00", strings.Repeat("k", 1000)} {
			u, err := Put(table, key, 5, 6)
			if err != api.ErrTableFull || len(u) != 0 {
				t.Errorf("%q: %v %v", key, u, err)
			}
			if u, ok := Delete(table, key); ok || len(u) != 0 {
				t.Errorf("%q: %v", key, u)
			}
		}
		if u := Tidy(table); len(u) != 0 {
			t.Error(u)
		}
		holdAll(t, table, "k")
	}
}

// P1, P2: what is put is told as it was put, whatever its numbers are, and whatever stood there.
func TestPutFields(t *testing.T) {
	numbers := []int{0, 1, -1, 255, 256, 65535, 65536, 1 << 32, math.MaxInt, math.MinInt}
	stands := []api.Entry{{}, en(api.Empty, "o"), tomb, en(api.Tomb, "o"), en(9, "o"), lively("k"), flow("k", math.MinInt, math.MaxInt), {State: 1, Key: "k"}}
	for _, backend := range numbers {
		for _, deadline := range numbers {
			for _, e := range stands {
				u, err := Put(on(e), "k", backend, deadline)
				if err != api.OK || !slices.Equal(u, on(flow("k", backend, deadline))) {
					t.Errorf("%v: %v %v", e, u, err)
				}
			}
			// A flow that is there already is told anew, also in a full table.
			u, err := Put(on(lively("o"), lively("k"), lively("p")), "k", backend, deadline)
			if err != api.OK || !slices.Equal(u, on(lively("o"), flow("k", backend, deadline), lively("p"))) {
				t.Error(u, err)
			}
		}
	}
}

// P2: keys are any bytes, and held against each other by all of them.
func TestKeysOfAllSorts(t *testing.T) {
	keys := []string{"", "\x00", "\x00\x00", "a", "A", "a\x00", "ab", "\xc3\xa9", "e\xcc\x81", "\xff", "\xef\xbf\xbd", strings.Repeat("k", 3000), strings.Repeat("k", 2999) + "l"}
	table, want := New(len(keys)), map[string]api.Entry{}
	for i, key := range keys {
		table = holdPut(t, table, key, i, -i)
		want[key] = flow(key, i, -i)
		holdFlows(t, table, want)
	}
	if u, err := Put(table, "more", 1, 1); err != api.ErrTableFull || !slices.Equal(u, table) {
		t.Error(u, err)
	}
	for _, key := range keys {
		table = holdDelete(t, table, key)
		delete(want, key)
		holdFlows(t, table, want)
	}
}

// P2: what is not found is not deleted, and the table stays as it is, also where Tombs are many.
func TestDeleteWhatIsNotThere(t *testing.T) {
	for home := range 4 {
		keys := keysAt(t, home, 4, 2)
		k, o, e := lively(keys[0]), lively(keys[1]), api.Entry{}
		for _, entries := range [][]api.Entry{
			on(e, e, e, e), times(4, tomb), on(o, o, o, o), on(o, e, k, k), on(e, k, k, k), on(tomb, e, k, k),
			on(tomb, tomb, tomb, o), on(tomb, tomb, tomb, e), times(4, en(api.Tomb, keys[0])), times(4, en(9, keys[0])),
			times(4, en(api.Empty, keys[0])), on(tomb, tomb, e, k),
		} {
			table := laid(home, entries)
			was := slices.Clone(table)
			if u, ok := Delete(table, keys[0]); ok || !slices.Equal(u, was) || !slices.Equal(table, was) {
				t.Errorf("%v: %v %v", was, u, ok)
			}
			holdAll(t, table, keys[0])
		}
	}
}

// P2: where a flow was deleted a Tomb stands, with nothing else in it.
func TestDeleteLeavesATomb(t *testing.T) {
	for home := range 4 {
		keys := keysAt(t, home, 4, 2)
		k, o, e := flow(keys[0], -9, math.MaxInt), lively(keys[1]), api.Entry{}
		for _, x := range []struct {
			on, want []api.Entry
		}{
			{on(k, e, e, e), on(tomb, e, e, e)},
			{on(k, o, e, e), on(tomb, o, e, e)},
			{on(o, k, e, e), on(o, tomb, e, e)},
			{on(o, o, o, k), on(o, o, o, tomb)},
			{on(tomb, k, o, e), on(tomb, tomb, o, e)},
			{on(en(9, keys[0]), k, en(3, ""), en(-1, "")), on(en(9, keys[0]), tomb, en(3, ""), en(-1, ""))},
			{on(k, k, e, e), on(tomb, k, e, e)},
			{on(o, k, e, k), on(o, tomb, e, k)},
			{on(en(api.Tomb, "x"), k, en(api.Empty, "y"), o), on(en(api.Tomb, "x"), tomb, en(api.Empty, "y"), o)},
		} {
			table := laid(home, x.on)
			if u, ok := Delete(table, keys[0]); !ok || !slices.Equal(u, laid(home, x.want)) || !slices.Equal(table, laid(home, x.on)) {
				t.Errorf("%v: %v %v", table, u, ok)
			}
			holdAll(t, table, keys[0])
		}
	}
}

// P2: with just as many Tombs as half of the places they stay, with one more the table is tidied; at all sizes that there are.
func TestDeleteAtTheHalf(t *testing.T) {
	for n := 1; n <= api.MaxCapacity; n++ {
		for home := range n {
			keys := keysAt(t, home, n, 1)
			for _, tombs := range []int{0, (n - 1) / 2, n / 2, n - 1} {
				// On the way the key stands behind the Tombs, and what is left is Empty; the Tombs have something in them.
				entries := append(times(tombs, en(api.Tomb, "x")), lively(keys[0]))
				entries = append(entries, New(n-len(entries))...)
				want := with(entries, tombs, tomb)
				if 2*(tombs+1) > n {
					want = New(n)
				}
				u, ok := Delete(laid(home, entries), keys[0])
				if !ok || !slices.Equal(u, laid(home, want)) {
					t.Fatalf("%d of %d, from %d on: %v %v", tombs, n, home, u, ok)
				}
			}
		}
	}
}

// P2: what is counted is Tombs, not other States that are as Tombs; when the table is tidied these are gone, too.
func TestDeleteCountsTombs(t *testing.T) {
	key := keyAt(t, 1, 5)
	for _, state := range odd {
		x := en(state, "x")
		u, ok := Delete(laid(1, on(x, x, x, x, lively(key))), key)
		if !ok || !slices.Equal(u, laid(1, on(x, x, x, x, tomb))) {
			t.Errorf("%d: %v %v", state, u, ok)
		}
		u, ok = Delete(laid(1, on(x, tomb, x, tomb, lively(key))), key)
		if !ok || !slices.Equal(u, New(5)) {
			t.Errorf("%d, tidied: %v %v", state, u, ok)
		}
	}
	// Empty ones and Live ones are no Tombs either.
	keys := keysAt(t, 0, 5, 3)
	a, b, c := lively(keys[0]), lively(keys[1]), lively(keys[2])
	if u, ok := Delete(on(tomb, a, b, c, api.Entry{}), keys[1]); !ok || !slices.Equal(u, on(tomb, a, tomb, c, api.Entry{})) {
		t.Error(u, ok)
	}
	// When it is tidied, what is left goes home, in the order of its places.
	if u, ok := Delete(on(tomb, tomb, b, a, c), keys[0]); !ok || !slices.Equal(u, on(b, c, api.Entry{}, api.Entry{}, api.Entry{})) {
		t.Error(u, ok)
	}
}

// P2: Tidy, at each edge.
func TestTidy(t *testing.T) {
	e := api.Entry{}
	for home := range 4 {
		keys := keysAt(t, home, 4, 4)
		var k []api.Entry
		for i, key := range keys {
			k = append(k, flow(key, i-1, math.MinInt+i))
		}
		next := lively(keyAt(t, (home+1)%4, 4))
		other := func(e api.Entry) api.Entry { return flow(e.Key, 1234, 5678) }
		for _, x := range []struct {
			name     string
			on, want []api.Entry
		}{
			{"all Empty", on(e, e, e, e), on(e, e, e, e)},
			{"Tombs alone", times(4, tomb), on(e, e, e, e)},
			{"Tombs that have keys", times(4, en(api.Tomb, keys[0])), on(e, e, e, e)},
			{"Empty ones that have keys", times(4, en(api.Empty, keys[0])), on(e, e, e, e)},
			{"other States alone", times(4, en(9, keys[0])), on(e, e, e, e)},
			{"one flow, behind Tombs", on(tomb, tomb, k[0], tomb), on(k[0], e, e, e)},
			{"one flow, behind an Empty one", on(e, k[0], e, e), on(k[0], e, e, e)},
			{"a flow that is at home", on(k[0], tomb, e, en(3, "x")), on(k[0], e, e, e)},
			{"two flows of two homes", on(tomb, tomb, next, k[0]), nil},
			{"one flow of the next home, behind one", on(k[0], tomb, next, e), on(k[0], next, e, e)},
			{"twice", on(k[0], other(k[0]), e, e), nil},
			{"everywhere", on(k[0], other(k[0]), k[0], other(k[0])), nil},
		} {
			table := laid(home, x.on)
			u := holdTidy(t, table)
			if x.want != nil && !slices.Equal(u, laid(home, x.want)) {
				t.Errorf("%s, from %d on: %v", x.name, home, u)
			}
			holdAll(t, table, keys[0])
		}
	}
}

// P2: flows are put in the order of their places: those of one home stand there one behind the other, and go around.
func TestTidyInOrder(t *testing.T) {
	for home := range 4 {
		keys := keysAt(t, home, 4, 4)
		// In the order of places, not in that of the way.
		table := on(lively(keys[0]), lively(keys[1]), lively(keys[2]), lively(keys[3]))
		if u := Tidy(table); !slices.Equal(u, laid(home, table)) {
			t.Errorf("%d: %v", home, u)
		}
		table = on(lively(keys[2]), tomb, lively(keys[0]), lively(keys[1]))
		want := on(lively(keys[2]), lively(keys[0]), lively(keys[1]), api.Entry{})
		if u := Tidy(table); !slices.Equal(u, laid(home, want)) {
			t.Errorf("%d: %v", home, u)
		}
	}
}

// P2: of a key that stands twice one flow is left, with what its last place told, at the place of the first one.
func TestTidyTwice(t *testing.T) {
	for home := range 5 {
		keys := keysAt(t, home, 5, 3)
		a, b, c := keys[0], keys[1], keys[2]
		table := on(flow(a, 1, 10), flow(b, 2, 20), flow(a, 3, 30), flow(c, 4, 40), flow(b, 5, 50))
		want := on(flow(a, 3, 30), flow(b, 5, 50), flow(c, 4, 40), api.Entry{}, api.Entry{})
		u := holdTidy(t, table)
		if !slices.Equal(u, laid(home, want)) || twice(u) || Right(table) || !Right(u) {
			t.Errorf("%d: %v", home, u)
		}
	}
}

// P1, P2: of a table that is longer than 64 a new one has 64 places; flows that find no room there are not put.
func TestTidyOfLongTables(t *testing.T) {
	for _, n := range []int{63, 64, 65, 66, 100, 128, 200, 1000} {
		for _, each := range []int{1, 2, 3, 10} {
			table := times(n, tomb)
			var keys []string
			for i := 0; i < n; i += each {
				key := "flow" + strconv.Itoa(i)
				table[i] = flow(key, i, -i)
				keys = append(keys, key)
			}
			u := holdTidy(t, table)
			if len(u) != min(n, 64) || probe.Count(u, api.Live) != min(len(keys), 64) {
				t.Errorf("%d, each %d: %d of %d", n, each, probe.Count(u, api.Live), len(u))
			}
			for i, key := range keys {
				at := probe.Find(u, key)
				if (at != -1) != (i < 64) || at != -1 && u[at] != flow(key, i*each, -i*each) {
					t.Errorf("%d, each %d: %q at %d", n, each, key, at)
				}
			}
			holdAll(t, table, keys[len(keys)-1])
		}
	}
	// What has no room may stand there already: then it is told anew.
	table := make([]api.Entry, 0, 67)
	for i := range 65 {
		table = append(table, flow("flow"+strconv.Itoa(i), i, i))
	}
	table = append(table, flow("flow7", -7, -7), flow("flow64", -64, -64))
	u := holdTidy(t, table)
	if at := probe.Find(u, "flow7"); at == -1 || u[at] != flow("flow7", -7, -7) || probe.Find(u, "flow64") != -1 {
		t.Error(u)
	}
}

// P1, P2: a table that is longer than 64 stays so, unless it is tidied.
func TestLongTables(t *testing.T) {
	for _, n := range []int{65, 127, 500} {
		table, want := make([]api.Entry, n), map[string]api.Entry{}
		for i := range n {
			key := "flow" + strconv.Itoa(i)
			table = holdPut(t, table, key, i, i)
			want[key] = flow(key, i, i)
		}
		holdFlows(t, table, want)
		if u, err := Put(table, "more", 1, 1); err != api.ErrTableFull || !slices.Equal(u, table) {
			t.Error(n, err)
		}
		for i := range n/2 + 1 {
			if len(table) != n {
				t.Fatalf("%d: %d left, by %d", n, len(table), i)
			}
			table = holdDelete(t, table, "flow"+strconv.Itoa(i))
		}
		if len(table) != 64 || probe.Count(table, api.Tomb) != 0 || probe.Count(table, api.Live) != min(64, n-n/2-1) {
			t.Errorf("%d: %v", n, table)
		}
	}
}

// P1: tables that are longer than any balancer's.
func TestVeryLongTables(t *testing.T) {
	const n = 1 << 14
	table := make([]api.Entry, n)
	for i := range table {
		table[i] = lively("o" + strconv.Itoa(i%5))
	}
	if u, err := Put(table, "k", 1, 1); err != api.ErrTableFull || !slices.Equal(u, table) {
		t.Error(err)
	}
	if u, ok := Delete(table, "k"); ok || !slices.Equal(u, table) {
		t.Error(ok)
	}
	if u, ok := Delete(table, "o3"); !ok || !slices.Equal(u, with(table, probe.Find(table, "o3"), tomb)) {
		t.Error(ok)
	}
	if u := Tidy(table); len(u) != 64 || len(Keys(u)) != 5 || !Right(u) {
		t.Error(u)
	}
	if Right(table) || len(Keys(table)) != n {
		t.Error("asked")
	}
}

// P1, P2, R3: all small tables of entries of all kinds, for keys whose ways begin at each place.
func TestAllSmallTables(t *testing.T) {
	for n := 1; n <= 4; n++ {
		for home := range n {
			keys := keysAt(t, home, n, 2)
			tables(n, kinds(keys[0], keys[1]), func(table []api.Entry) { holdAll(t, table, keys[0]) })
		}
	}
	for home := range 5 {
		key, next := keyAt(t, home, 5), keyAt(t, (home+1)%5, 5)
		of := []api.Entry{{}, lively(key), flow(next, 1, 2), flow(key, 3, 4), tomb}
		tables(5, of, func(table []api.Entry) { holdAll(t, table, key) })
	}
}

// P2: what holds, of all rows of operations on three keys, from an empty table on.
func TestAllShortRows(t *testing.T) {
	var keys []string
	for _, home := range []int{2, 2, 0} {
		keys = append(keys, keysAt(t, home, 3, 3)[len(keys)])
	}
	keys = append(keys, keyAt(t, 1, 3))
	var goOn func(table []api.Entry, want map[string]api.Entry, left int)
	goOn = func(table []api.Entry, want map[string]api.Entry, left int) {
		holdFlows(t, table, want)
		if left == 0 {
			return
		}
		for _, key := range keys {
			more := maps.Clone(want)
			if _, known := more[key]; known || len(more) < len(table) {
				more[key] = flow(key, left, -left)
			}
			goOn(holdPut(t, table, key, left, -left), more, left-1)
			less := maps.Clone(want)
			delete(less, key)
			goOn(holdDelete(t, table, key), less, left-1)
		}
	}
	goOn(New(3), map[string]api.Entry{}, 5)
}

// P2: what holds, of long rows of operations at all sizes; a map tells what is to be found.
func TestLongRows(t *testing.T) {
	seed := uint64(1)
	next := func(n int) int {
		seed = seed*6364136223846793005 + 1442695040888963407
		return int(seed >> 33 % uint64(n))
	}
	for _, n := range []int{1, 2, 3, 4, 5, 7, 8, 16, 33, 64} {
		table, want := New(n), map[string]api.Entry{}
		for i := range 1500 {
			key := "flow" + strconv.Itoa(next(n+n/2+1))
			_, known := want[key]
			switch kind := next(20); {
			case kind < 10:
				u, err := Put(table, key, i, -i)
				if (err == api.OK) != (known || len(want) < n) || err != api.OK && err != api.ErrTableFull {
					t.Fatalf("%d: %q: %v", n, key, err)
				}
				if err == api.OK {
					want[key] = flow(key, i, -i)
				}
				table = u
			case kind < 19:
				u, ok := Delete(table, key)
				if ok != known {
					t.Fatalf("%d: %q: %v", n, key, ok)
				}
				delete(want, key)
				table = u
			default:
				table = Tidy(table)
				if probe.Count(table, api.Tomb) != 0 {
					t.Fatalf("%d: %v", n, table)
				}
			}
			if len(table) != n || 2*probe.Count(table, api.Tomb) > n {
				t.Fatalf("%d: %v", n, table)
			}
			holdFlows(t, table, want)
		}
	}
}

// spare is a table with entries behind it that are none of it; the whole one has them, too.
func spare() (table, whole []api.Entry) {
	whole = on(lively("a"), api.Entry{}, en(api.Tomb, "k"), en(9, "k"), lively("k"), lively("b"), tomb, lively("behind"), api.Entry{})
	return whole[:7], whole
}

// R3: a table that is handed in is changed by no call, nor is what stands behind it; that is not asked either.
func TestArgumentsStay(t *testing.T) {
	table, whole := spare()
	_, was := spare()
	for _, key := range []string{"k", "a", "b", "none", "", "behind", "more", "and more"} {
		for from := range len(table) {
			for to := from; to <= len(table); to++ {
				part := table[from:to]
				if u, _ := Put(part, key, 1, 2); len(u) != len(part) {
					t.Error(u)
				}
				if u, ok := Delete(part, key); len(u) != len(part) || ok && key == "behind" {
					t.Error(u, ok)
				}
				Right(part)
				if u, keys := Tidy(part), Keys(part); len(u) != len(part) || slices.Contains(keys, "behind") {
					t.Error(u, keys)
				}
				if !slices.Equal(whole, was) {
					t.Fatalf("%q, %d to %d: %v", key, from, to, whole)
				}
			}
		}
	}
}

// R3: an answer that was told is changed by no later call, and shares nothing with what was handed in.
func TestAnswersStay(t *testing.T) {
	answers := map[string]func(t []api.Entry) []api.Entry{
		"Put anew":       func(t []api.Entry) []api.Entry { u, _ := Put(t, "a", 5, 6); return u },
		"Put":            func(t []api.Entry) []api.Entry { u, _ := Put(t, "more", 5, 6); return u },
		"Delete":         func(t []api.Entry) []api.Entry { u, _ := Delete(t, "a"); return u },
		"Delete of none": func(t []api.Entry) []api.Entry { u, _ := Delete(t, "none"); return u },
		"Tidy":           Tidy,
		"Put, full":      func(t []api.Entry) []api.Entry { u, _ := Put(t[:1:1], "more", 5, 6); return u },
		"Delete, tidied": func(t []api.Entry) []api.Entry { u, _ := Delete(t[:1], "a"); return u },
	}
	for name, call := range answers {
		table := on(lively("a"), tomb, api.Entry{}, lively("b"))
		was := slices.Clone(table)
		u := call(table)
		told := slices.Clone(u)
		for _, key := range []string{"a", "b", "c", "more"} {
			Put(u, key, 7, 8)
			Put(table, key, 7, 8)
			Delete(u, key)
			Delete(table, key)
		}
		Tidy(u)
		Keys(u)
		if !slices.Equal(u, told) || !slices.Equal(table, was) {
			t.Errorf("%s: %v %v", name, u, table)
		}
		// Its owner may do as he likes with either of them.
		clear(table)
		if !slices.Equal(u, told) {
			t.Errorf("%s: %v, not %v", name, u, told)
		}
		table = slices.Clone(was)
		u = call(table)
		clear(u)
		clear(u[:cap(u)])
		if !slices.Equal(table, was) {
			t.Errorf("%s: %v, not %v", name, table, was)
		}
	}
}

// R3: Keys tells a list of its own.
func TestKeysStay(t *testing.T) {
	table := on(lively("a"), lively("b"))
	first := Keys(table)
	second := Keys(table)
	second[0] = "x"
	clear(table)
	if !slices.Equal(first, []string{"a", "b"}) || len(Keys(table)) != 0 {
		t.Errorf("%q", first)
	}
}

// R4: the same calls tell the same, whatever was asked between them.
func TestSameAgain(t *testing.T) {
	table, _ := spare()
	put, err := Put(table, "new", 1, 2)
	less, ok := Delete(table, "a")
	tidy := Tidy(table)
	for i := range 30 {
		key := strconv.Itoa(i)
		Put(table[i%7:], key, i, i)
		Delete(table[:i%7], "a")
		Tidy(table[i%7:])
		u, e := Put(table, "new", 1, 2)
		v, o := Delete(table, "a")
		if e != err || o != ok || !slices.Equal(u, put) || !slices.Equal(v, less) || !slices.Equal(Tidy(table), tidy) || len(New(3)) != 3 {
			t.Fatal("unlike")
		}
	}
}

// entries is a table out of bytes: their lower bits tell the States, their upper ones the Keys, of which some are the key itself.
func entries(s, key string) []api.Entry {
	states := append([]int{api.Empty, api.Live, api.Tomb, api.Live}, odd...)
	var t []api.Entry
	for i := range len(s) {
		stands := []string{key, key + "o", "", key + strconv.Itoa(i)}[(s[i]>>4)%4]
		t = append(t, api.Entry{State: states[int(s[i]%16)%len(states)], Key: stands, Backend: i, Deadline: int(s[i])})
	}
	return t
}

// P1, P2, R3 at tables and keys that a fuzzer makes up; as a plain test at these seeds.
func FuzzFlows(f *testing.F) {
	f.Add("", "", 0)
	f.Add("\x01", "k", 1)
	f.Add("\x11\x12\x01\x00\x11\x03", "a", -1)
	f.Add("\x11\x11\x11\x11\x11\x11\x11", "\x00\xff", math.MaxInt)
	f.Add("\x02\x12\x0d\x1c\x01\x31\x10\x01", strings.Repeat("k", 99), math.MinInt)
	f.Add(strings.Repeat("\x31\x02\x33\x02\x22", 30), "long", 65)
	f.Fuzz(func(t *testing.T, s, key string, n int) {
		if u := New(n); !slices.Equal(u, times(min(max(n, 0), 64), api.Entry{})) {
			t.Fatalf("New %d: %v", n, u)
		}
		table := entries(s[:min(len(s), 200)], key)
		for _, k := range []string{key, key + "o", "", s} {
			holdAll(t, table, k)
		}
		// The same bytes as a row of operations, from a tidied table on.
		table = Tidy(table)
		for i := range min(len(s), 200) {
			k := key + strconv.Itoa(int(s[i]>>2)%50)
			if s[i]%4 < 2 {
				table = holdPut(t, table, k, i, n)
			} else {
				table = holdDelete(t, table, k)
			}
		}
		holdTidy(t, table)
	})
}
