package probe

import (
	library "hash/fnv"
	"math"
	"math/big"
	"slices"
	"strconv"
	"strings"
	"testing"

	"gangplank/api"
)

// states is the three states, and such as are none of them.
var states = []int{api.Empty, api.Live, api.Tomb, 3, 9, 255, 256, 257, -1, -2, 1 << 32, 1<<32 + 1, math.MaxInt, math.MinInt}

// en is an entry of a state and a key, with numbers behind them that are no matter.
func en(state int, key string) api.Entry {
	return api.Entry{State: state, Key: key, Backend: 7, Deadline: 99}
}

// live is a Live entry of a key.
func live(key string) api.Entry { return en(api.Live, key) }

// wantHome is Home by the library's hash, and by numbers that never go round.
func wantHome(key string, n int) int {
	if n < 1 {
		return 0
	}
	w := library.New64a()
	w.Write([]byte(key))
	h := new(big.Int).SetUint64(w.Sum64())
	return int(h.Mod(h, big.NewInt(int64(n))).Int64())
}

// wantWay is a key's way in a table of n entries, by the chapter's own sentence.
func wantWay(key string, n int) []int {
	var places []int
	for i := range n {
		places = append(places, (wantHome(key, n)+i)%n)
	}
	return places
}

// emptyAt is how many places of a way stand ahead of its first Empty entry; all of them, if there is none.
func emptyAt(t []api.Entry, places []int) int {
	for i, at := range places {
		if t[at].State == 0 {
			return i
		}
	}
	return len(places)
}

// wantFind is Find by the chapter's own sentence.
func wantFind(t []api.Entry, key string) int {
	places := wantWay(key, len(t))
	for _, at := range places[:emptyAt(t, places)] {
		if t[at].State == 1 && t[at].Key == key {
			return at
		}
	}
	return -1
}

// wantRoom is Room by the chapter's own sentence.
func wantRoom(t []api.Entry, key string) int {
	if wantFind(t, key) >= 0 {
		return -1
	}
	places := wantWay(key, len(t))
	for _, at := range places[:min(emptyAt(t, places)+1, len(places))] {
		if t[at].State != 1 {
			return at
		}
	}
	return -1
}

// keyAt is a key whose way begins at a place of a table of n entries.
func keyAt(t testing.TB, home, n int) string {
	t.Helper()
	for i := range 100000 {
		if key := "key" + strconv.Itoa(i); wantHome(key, n) == home {
			return key
		}
	}
	t.Fatalf("no key whose way begins at %d of %d", home, n)
	return ""
}

// laid is a table in which these entries stand on the way of a key that begins at home.
func laid(home int, entries []api.Entry) []api.Entry {
	t := make([]api.Entry, len(entries))
	for i, e := range entries {
		t[(home+i)%len(entries)] = e
	}
	return t
}

// tables tells all tables of n entries out of these.
func tables(n int, of []api.Entry, told func(t []api.Entry)) {
	t := make([]api.Entry, n)
	var fill func(i int)
	fill = func(i int) {
		if i == n {
			told(t)
			return
		}
		for _, e := range of {
			t[i] = e
			fill(i + 1)
		}
	}
	fill(0)
}

// kinds is entries of all kinds that a way of a key may meet.
func kinds(key string) []api.Entry {
	return []api.Entry{{}, en(api.Empty, key), live(key), live(key + "\x00"), {State: api.Tomb}, en(api.Tomb, key), en(3, key), en(-1, "o")}
}

// hold holds Find and Room against the chapter's sentences, and against what holds.
func hold(t *testing.T, table []api.Entry, key string) {
	t.Helper()
	at, room := Find(table, key), Room(table, key)
	if at != wantFind(table, key) {
		t.Fatalf("%v %q: %d, not %d", table, key, at, wantFind(table, key))
	}
	if room != wantRoom(table, key) {
		t.Fatalf("%v %q: room %d, not %d", table, key, room, wantRoom(table, key))
	}
	if at != -1 && (table[at].State != api.Live || table[at].Key != key || room != -1) {
		t.Fatalf("%v %q: %d is not it", table, key, at)
	}
	if room != -1 && table[room].State == api.Live {
		t.Fatalf("%v %q: %d is no room", table, key, room)
	}
}

// P2: the chapter's example.
func TestExamples(t *testing.T) {
	for _, key := range []string{"", "a", "\x00", strings.Repeat("k", 1000)} {
		for _, table := range [][]api.Entry{nil, {}, make([]api.Entry, 0, 5)} {
			if Find(table, key) != -1 || Room(table, key) != -1 {
				t.Errorf("%q: %d %d", key, Find(table, key), Room(table, key))
			}
		}
	}
}

// P2: homes that were worked out by hand, from hashes that others tell, too.
func TestHomeByHand(t *testing.T) {
	// The hash of a is 12638187200555641996, that of no bytes 14695981039346656037, that of fo 619342838404076354.
	for _, x := range []struct {
		key  string
		n    int
		want int
	}{
		{"a", math.MinInt, 0}, {"a", -4, 0}, {"a", -1, 0}, {"a", 0, 0}, {"a", 1, 0},
		{"a", 2, 0}, {"a", 4, 0}, {"a", 5, 1}, {"a", 10, 6}, {"a", 100, 96}, {"a", 1000, 996}, {"a", 1000000, 641996},
		{"a", math.MaxInt, 3414815163700866189},
		{"", math.MinInt, 0}, {"", -1, 0}, {"", 0, 0}, {"", 1, 0},
		{"", 2, 1}, {"", 4, 1}, {"", 5, 2}, {"", 10, 7}, {"", 100, 37}, {"", 1000, 37}, {"", 1000000, 656037},
		{"", math.MaxInt, 5472609002491880230},
		{"fo", 10, 4}, {"fo", 1000, 354}, {"fo", math.MaxInt, 619342838404076354}, {"fo", 619342838404076354, 0}, {"fo", 619342838404076355, 619342838404076354},
	} {
		if at := Home(x.key, x.n); at != x.want {
			t.Errorf("%q %d: %d, not %d", x.key, x.n, at, x.want)
		}
	}
}

// P1, P2: keys of all sorts, at numbers of all sizes: what is told is a place of such a table.
func TestHome(t *testing.T) {
	all := make([]byte, 256)
	for i := range all {
		all[i] = byte(i)
	}
	keys := []string{"", "a", "b", "\x00", "\x00\x00", "\xff", "é€😀", "\xe2\x82", string(all), strings.Repeat("gangplank", 500)}
	for i := range 200 {
		keys = append(keys, "key"+strconv.Itoa(i))
	}
	ns := []int{-1, 0, math.MinInt, math.MinInt + 1, -api.MaxCapacity, math.MaxInt, math.MaxInt - 1}
	for n := range 130 {
		ns = append(ns, n)
	}
	for bit := range 63 {
		ns = append(ns, 1<<bit-1, 1<<bit, 1<<bit+1, -1<<bit)
	}
	for _, key := range keys {
		for _, n := range ns {
			at := Home(key, n)
			if at != wantHome(key, n) || at < 0 || at >= max(n, 1) {
				t.Errorf("%q %d: %d", key, n, at)
			}
		}
	}
}

// P2: a way has each place once, begins at Home, and goes around behind the last one.
func TestWay(t *testing.T) {
	for n := range 70 {
		table := make([]api.Entry, n)
		for i := range table {
			table[i].Backend = i
		}
		for i := range 30 {
			key := "key" + strconv.Itoa(i)
			var places []int
			for at, e := range way(table, key) {
				if e != table[at] {
					t.Fatalf("%q of %d: %v at %d", key, n, e, at)
				}
				places = append(places, at)
			}
			if !slices.Equal(places, wantWay(key, n)) {
				t.Fatalf("%q of %d: %v", key, n, places)
			}
		}
	}
}

// A way is told no further than it is asked for.
func TestWayStops(t *testing.T) {
	table := make([]api.Entry, 9)
	key := keyAt(t, 6, 9)
	for stop := 1; stop <= len(table); stop++ {
		told := 0
		for at := range way(table, key) {
			if at != (6+told)%9 {
				t.Errorf("%d: %d", stop, at)
			}
			if told++; told == stop {
				break
			}
		}
		if told != stop {
			t.Error(stop, told)
		}
	}
}

// P1, P2: a table of one entry, of each state, with the key itself and with another one.
func TestOneEntry(t *testing.T) {
	for _, key := range []string{"", "k", "\x00"} {
		for _, state := range states {
			for _, stands := range []string{key, key + "x", ""} {
				table := []api.Entry{en(state, stands)}
				find, room := -1, 0
				if state == api.Live {
					room = -1
					if stands == key {
						find = 0
					}
				}
				if Find(table, key) != find || Room(table, key) != room {
					t.Errorf("%v %q: %d %d, not %d %d", table, key, Find(table, key), Room(table, key), find, room)
				}
			}
		}
	}
}

// A wayCase is what stands on a key's way, and how far on it Find and Room tell a place; -1, if they tell none.
type wayCase struct {
	name       string
	on         []api.Entry
	find, room int
}

// wayCases is the edges that the chapter names, for a key.
func wayCases(key string) []wayCase {
	k, o := live(key), live(key+"o")
	e, tomb, odd := api.Entry{}, api.Entry{State: api.Tomb}, api.Entry{State: 9}
	kTomb, kEmpty, kOdd, kBelow := en(api.Tomb, key), en(api.Empty, key), en(3, key), en(-1, key)
	on := func(entries ...api.Entry) []api.Entry { return entries }
	return []wayCase{
		{"at home", on(k, o, o, o), 0, -1},
		{"at the end", on(o, o, o, k), 3, -1},
		{"all Empty", on(e, e, e, e), -1, 0},
		{"behind an Empty one at home", on(e, k, k, k), -1, 0},
		{"behind an Empty one", on(o, e, k, o), -1, 1},
		{"behind an Empty one at the last place but one", on(o, o, e, k), -1, 2},
		{"behind a Tomb and an Empty one", on(tomb, e, k, o), -1, 0},
		{"ahead of an Empty one", on(o, k, e, k), 1, -1},
		{"behind Tombs", on(tomb, tomb, k, e), 2, -1},
		{"behind others and a Tomb", on(o, tomb, o, k), 3, -1},
		{"behind other States", on(odd, kBelow, odd, k), 3, -1},
		{"a Tomb has it", on(o, kTomb, o, e), -1, 1},
		{"a Tomb has it, ahead of it", on(kTomb, o, k, e), 2, -1},
		{"an Empty one has it", on(o, kEmpty, o, o), -1, 1},
		{"an Empty one has it, ahead of it", on(o, kEmpty, k, o), -1, 1},
		{"another State has it", on(o, o, kOdd, e), -1, 2},
		{"another State has it, ahead of it", on(kBelow, o, kOdd, k), 3, -1},
		{"twice", on(o, k, k, e), 1, -1},
		{"twice, a Tomb between", on(tomb, k, tomb, k), 1, -1},
		{"twice, an Empty one between", on(k, e, k, o), 0, -1},
		{"everywhere", on(k, k, k, k), 0, -1},
		{"a Tomb ahead of the first Empty one", on(o, tomb, o, e), -1, 1},
		{"two Tombs ahead of the first Empty one", on(o, tomb, tomb, e), -1, 1},
		{"a Tomb next to the first Empty one", on(o, o, tomb, e), -1, 2},
		{"a Tomb behind the first Empty one", on(o, e, tomb, o), -1, 1},
		{"no Tomb", on(o, o, o, e), -1, 3},
		{"another State ahead of the first Empty one", on(o, odd, tomb, e), -1, 1},
		{"Live ones alone", on(o, o, o, o), -1, -1},
		{"Tombs alone", on(tomb, tomb, tomb, tomb), -1, 0},
		{"Tombs that have it alone", on(kTomb, kTomb, kTomb, kTomb), -1, 0},
		{"other States alone", on(odd, odd, odd, odd), -1, 0},
		{"no Empty one", on(o, o, tomb, o), -1, 2},
		{"no Empty one, a Tomb at the end", on(o, o, o, tomb), -1, 3},
		{"no Empty one, another State at the end", on(o, o, o, odd), -1, 3},
	}
}

// P2: each edge on ways that begin at each place: those that begin at the last one go around.
func TestEdges(t *testing.T) {
	for home := range 4 {
		key := keyAt(t, home, 4)
		place := func(n int) int {
			if n < 0 {
				return -1
			}
			return (home + n) % 4
		}
		for _, x := range wayCases(key) {
			table := laid(home, x.on)
			if at := Find(table, key); at != place(x.find) {
				t.Errorf("%s, from %d on: %d, not %d", x.name, home, at, place(x.find))
			}
			if at := Room(table, key); at != place(x.room) {
				t.Errorf("%s, from %d on: room %d, not %d", x.name, home, at, place(x.room))
			}
			hold(t, table, key)
		}
	}
}

// P2: a way that begins at the last place goes on at the first one, in tables of all sizes.
func TestFromTheLastPlace(t *testing.T) {
	for n := 2; n <= api.MaxCapacity; n++ {
		key := keyAt(t, n-1, n)
		table := make([]api.Entry, n)
		table[n-1] = live("o")
		if Find(table, key) != -1 || Room(table, key) != 0 {
			t.Errorf("%d: %d %d", n, Find(table, key), Room(table, key))
		}
		table[0] = live(key)
		if Find(table, key) != 0 || Room(table, key) != -1 {
			t.Errorf("%d, put: %d %d", n, Find(table, key), Room(table, key))
		}
		// The last place of all that the way comes to is the one ahead of where it began.
		for i := range table {
			table[i] = live("o")
		}
		table[n-2] = live(key)
		if Find(table, key) != n-2 || Room(table, key) != -1 {
			t.Errorf("%d, at the end: %d %d", n, Find(table, key), Room(table, key))
		}
		table[n-2] = en(api.Tomb, key)
		if Find(table, key) != -1 || Room(table, key) != n-2 {
			t.Errorf("%d, a Tomb at the end: %d %d", n, Find(table, key), Room(table, key))
		}
	}
}

// P1, P2: all small tables, of entries of all kinds, for keys whose ways begin at each place.
func TestAllSmallTables(t *testing.T) {
	for n := 1; n <= 4; n++ {
		for home := range n {
			key := keyAt(t, home, n)
			tables(n, kinds(key), func(table []api.Entry) { hold(t, table, key) })
		}
	}
	for home := range 6 {
		key := keyAt(t, home, 6)
		tables(6, []api.Entry{{}, live(key), live("o"), en(api.Tomb, key)}, func(table []api.Entry) { hold(t, table, key) })
	}
}

// P1, P2: no State but the three is Live or Empty, however like theirs its lowest bits are.
func TestOtherStates(t *testing.T) {
	key := keyAt(t, 1, 3)
	for _, state := range states[2:] {
		for _, stands := range []string{key, "o", ""} {
			table := laid(1, []api.Entry{en(state, stands), live("o"), {}})
			if Find(table, key) != -1 || Room(table, key) != 1 {
				t.Errorf("%v: %d %d", table, Find(table, key), Room(table, key))
			}
			table = laid(1, []api.Entry{en(state, stands), live(key), {}})
			if Find(table, key) != 2 || Room(table, key) != -1 {
				t.Errorf("%v: %d %d", table, Find(table, key), Room(table, key))
			}
		}
	}
}

// P2: keys are held against each other byte by byte, all of them.
func TestKeysByTheirBytes(t *testing.T) {
	keys := []string{"", "\x00", "\x00\x00", "a", "A", "a\x00", "ab", "b", "\xc3\xa9", "e\xcc\x81", "\xff", "\xfe", "\xef\xbf\xbd", strings.Repeat("k", 300), strings.Repeat("k", 299) + "l"}
	for _, key := range keys {
		for _, stands := range keys {
			table := []api.Entry{live(stands), live(stands)}
			found := Find(table, key)
			if (found != -1) != (key == stands) || found != wantFind(table, key) || Room(table, key) != -1 {
				t.Errorf("%q in %q: %d %d", key, stands, found, Room(table, key))
			}
		}
	}
}

// P2: a key is found by its Key alone: Backend and Deadline are no matter.
func TestOtherFieldsAreNoMatter(t *testing.T) {
	for _, n := range []int{0, 1, -1, math.MaxInt, math.MinInt} {
		for _, m := range []int{0, 2, -1, math.MaxInt, math.MinInt} {
			table := []api.Entry{{State: api.Live, Key: "k", Backend: n, Deadline: m}}
			if Find(table, "k") != 0 || Room(table, "k") != -1 || Find(table, "o") != -1 {
				t.Error(n, m)
			}
			table[0].State = api.Tomb
			if Find(table, "k") != -1 || Room(table, "k") != 0 {
				t.Error(n, m, "Tomb")
			}
		}
	}
}

// P2: what is put where there was room is found there, and all that was found ahead is found where it was.
func TestPutWhereThereWasRoom(t *testing.T) {
	for _, n := range []int{1, 2, 3, 7, 16, api.MaxCapacity} {
		table := make([]api.Entry, n)
		for i := range table {
			// Some Tombs and other States are there from the beginning on.
			table[i].State = []int{api.Empty, api.Tomb, api.Empty, 5}[i%4]
		}
		at := map[string]int{}
		for i := range n {
			key := "flow" + strconv.Itoa(i)
			hold(t, table, key)
			room := Room(table, key)
			if room == -1 {
				t.Fatalf("%d of %d: no room", i, n)
			}
			table[room] = live(key)
			at[key] = room
			for k, place := range at {
				if Find(table, k) != place || Room(table, k) != -1 {
					t.Fatalf("%q of %d: %d, not %d", k, n, Find(table, k), place)
				}
			}
		}
		if Find(table, "more") != -1 || Room(table, "more") != -1 || Count(table, api.Live) != n {
			t.Errorf("%d: full", n)
		}
	}
}

// P2: of all small tables: what is put where there was room is found there.
func TestPutInAllSmallTables(t *testing.T) {
	for home := range 4 {
		key := keyAt(t, home, 4)
		tables(4, kinds(key), func(table []api.Entry) {
			room := Room(table, key)
			if room == -1 {
				return
			}
			put := slices.Clone(table)
			put[room] = live(key)
			if Find(put, key) != room || Room(put, key) != -1 {
				t.Fatalf("%v: room %d, found %d", table, room, Find(put, key))
			}
		})
	}
}

// P2: once a Tomb stands instead of another one, all else is found where it was; instead of an Empty one it would not be so.
func TestTombInstead(t *testing.T) {
	const n = 8
	table := make([]api.Entry, n)
	var keys []string
	for i := range n - 1 {
		key := "flow" + strconv.Itoa(i)
		keys = append(keys, key)
		table[Room(table, key)] = live(key)
	}
	for _, gone := range keys {
		left := slices.Clone(table)
		left[Find(table, gone)] = api.Entry{State: api.Tomb}
		for _, key := range keys {
			want := Find(table, key)
			if key == gone {
				want = -1
			}
			if Find(left, key) != want {
				t.Errorf("%q without %q: %d, not %d", key, gone, Find(left, key), want)
			}
		}
		if room := Room(left, gone); room == -1 || left[room].State == api.Live {
			t.Errorf("%q: room %d", gone, room)
		}
	}
	// An Empty one in that place would end the way ahead of the key.
	key := keyAt(t, 2, n)
	table = laid(2, []api.Entry{live("o"), live(key), {}, {}, {}, {}, {}, {}})
	for _, x := range []struct{ state, find, room int }{{api.Tomb, 3, -1}, {9, 3, -1}, {api.Empty, -1, 2}} {
		table[2] = api.Entry{State: x.state}
		if Find(table, key) != x.find || Room(table, key) != x.room {
			t.Errorf("%d: %d %d", x.state, Find(table, key), Room(table, key))
		}
	}
	// What stands twice is found at its second place, once the first one is a Tomb.
	table = laid(2, []api.Entry{live(key), live("o"), live(key), {}, {}, {}, {}, {}})
	if Find(table, key) != 2 {
		t.Error(Find(table, key))
	}
	table[2] = api.Entry{State: api.Tomb}
	if Find(table, key) != 4 || Room(table, key) != -1 {
		t.Error(Find(table, key), Room(table, key))
	}
}

// P1, P2: tables that are longer than any balancer's.
func TestLongTables(t *testing.T) {
	const n = 1 << 16
	table := make([]api.Entry, n)
	for i := range table {
		table[i] = live("o" + strconv.Itoa(i%5))
	}
	if Find(table, "k") != -1 || Room(table, "k") != -1 || Count(table, api.Live) != n || Count(table, api.Empty) != 0 {
		t.Error("Live ones alone")
	}
	last := (wantHome("k", n) + n - 1) % n
	table[last] = en(api.Tomb, "k")
	if Find(table, "k") != -1 || Room(table, "k") != last || Count(table, api.Tomb) != 1 {
		t.Error("a Tomb at the end")
	}
	table[last] = live("k")
	if Find(table, "k") != last || Room(table, "k") != -1 {
		t.Error("at the end")
	}
	other := slices.Clone(table)
	if !Same(table, other) {
		t.Error("alike")
	}
	other[n-1].Deadline++
	if Same(table, other) || Same(table, table[:n-1]) {
		t.Error("not alike")
	}
}

// P2: Count is of the State that is asked for, and of no other.
func TestCount(t *testing.T) {
	for _, state := range states {
		if Count(nil, state) != 0 || Count([]api.Entry{}, state) != 0 {
			t.Errorf("%d of none", state)
		}
	}
	// Of the first State one, of the next one two, and so on, mixed up.
	var table []api.Entry
	for i := range states {
		for _, state := range states[i:] {
			table = append(table, en(state, "k"))
		}
	}
	for i, state := range states {
		if n := Count(table, state); n != i+1 {
			t.Errorf("%d: %d, not %d", state, n, i+1)
		}
	}
	for _, state := range []int{4, 8, -3, 258, 1<<32 + 2, math.MaxInt - 1, math.MinInt + 1} {
		if n := Count(table, state); n != 0 {
			t.Errorf("%d: %d", state, n)
		}
	}
	// What a State is as, is no matter: it has its own number.
	table = []api.Entry{en(api.Tomb, ""), en(9, ""), {}, live(""), en(9, "k")}
	if Count(table, api.Tomb) != 1 || Count(table, 9) != 2 || Count(table, api.Empty) != 1 || Count(table, api.Live) != 1 {
		t.Error("as a Tomb")
	}
}

// P2: all small tables: what is counted of the states is what there is.
func TestCountOfAllSmallTables(t *testing.T) {
	tables(4, kinds("k"), func(table []api.Entry) {
		want := map[int]int{}
		for _, e := range table {
			want[e.State]++
		}
		for _, state := range states {
			if n := Count(table, state); n != want[state] {
				t.Fatalf("%v %d: %d", table, state, n)
			}
		}
	})
}

// P2: tables are alike if they have as many entries, and these are alike in each field, one by one.
func TestSame(t *testing.T) {
	base := func() []api.Entry {
		return []api.Entry{{State: api.Live, Key: "k", Backend: 3, Deadline: 5}, {}, {State: api.Tomb}, {State: 9, Key: "o", Backend: -1, Deadline: math.MinInt}}
	}
	table := base()
	if !Same(table, table) || !Same(table, base()) || !Same(nil, nil) || !Same(nil, []api.Entry{}) || !Same([]api.Entry{}, nil) || !Same(make([]api.Entry, 2), []api.Entry{{}, {}}) {
		t.Error("alike")
	}
	unlike := func(name string, a, b []api.Entry) {
		t.Helper()
		if Same(a, b) || Same(b, a) {
			t.Errorf("%s: %v %v", name, a, b)
		}
	}
	for n := range len(table) {
		unlike("longer", table, base()[:n])
		unlike("shorter ahead", table, base()[n+1:])
		unlike("longer by Empty ones", make([]api.Entry, n), make([]api.Entry, len(table)))
		for name, change := range map[string]func(e *api.Entry){
			"State":         func(e *api.Entry) { e.State += 3 },
			"State, far":    func(e *api.Entry) { e.State += 1 << 32 },
			"Key":           func(e *api.Entry) { e.Key += "\x00" },
			"Key, ahead":    func(e *api.Entry) { e.Key = "x" + e.Key },
			"Backend":       func(e *api.Entry) { e.Backend++ },
			"Backend, far":  func(e *api.Entry) { e.Backend += 1 << 32 },
			"Deadline":      func(e *api.Entry) { e.Deadline-- },
			"Deadline, far": func(e *api.Entry) { e.Deadline ^= math.MinInt },
		} {
			other := base()
			change(&other[n])
			unlike(name, table, other)
			unlike(name+" of one", table[n:n+1], other[n:n+1])
		}
	}
	turned := base()
	slices.Reverse(turned)
	unlike("another order", table, turned)
	unlike("Keys of one length", []api.Entry{live("ab")}, []api.Entry{live("ba")})
	unlike("fields that changed places", []api.Entry{{Backend: 1, Deadline: 2}}, []api.Entry{{Backend: 2, Deadline: 1}})
	unlike("entries that changed places", []api.Entry{live("a"), live("b")}, []api.Entry{live("b"), live("a")})
}

// P2: of all small tables just those that are the same are alike.
func TestSameOfAllSmallTables(t *testing.T) {
	var all [][]api.Entry
	var names []string
	for n := range 3 {
		tables(n, kinds("k"), func(table []api.Entry) {
			all = append(all, slices.Clone(table))
			name := ""
			for _, e := range table {
				name += strconv.Itoa(e.State) + strconv.Quote(e.Key) + strconv.Itoa(e.Backend) + ";"
			}
			names = append(names, name)
		})
	}
	for i, a := range all {
		for j, b := range all {
			if Same(a, b) != (names[i] == names[j]) {
				t.Fatalf("%v %v", a, b)
			}
		}
	}
}

// spare is a table with entries behind it that are none of it; the whole one has them, too.
func spare() (table, whole []api.Entry) {
	whole = []api.Entry{live("a"), {}, en(api.Tomb, "k"), en(9, "k"), live("k"), live("b"), live("k"), live("behind"), {}}
	return whole[:7], whole
}

// R3: a table that is handed in is changed by no call, nor is what stands behind it; that is not asked either.
func TestArgumentsStay(t *testing.T) {
	table, whole := spare()
	_, was := spare()
	other, wholeOther := spare()
	check := func(call string) {
		t.Helper()
		if !slices.Equal(whole, was) || !slices.Equal(wholeOther, was) {
			t.Errorf("%s: %v", call, whole)
		}
	}
	for _, key := range []string{"k", "a", "b", "none", "", "behind", "k\x00", "more", "and more"} {
		for n := range len(table) + 1 {
			Find(table[:n], key)
			check("Find")
			Room(table[:n], key)
			check("Room")
		}
	}
	for _, state := range states {
		Count(table, state)
		check("Count")
	}
	Same(table, other)
	Same(table, other[:3])
	Same(table[1:], other)
	check("Same")
	for n := range len(table) + 1 {
		if Find(table[:n], "behind") != -1 || Room(table[:n], "behind") >= n {
			t.Errorf("%d: %d %d", n, Find(table[:n], "behind"), Room(table[:n], "behind"))
		}
	}
	if Count(table, api.Empty) != 1 || !Same(table, slices.Clone(table)) {
		t.Error("behind")
	}
}

// R3: nothing is kept of a table: once its owner changed it, what is told is of what stands there now.
func TestNothingIsKept(t *testing.T) {
	table, _ := spare()
	other := slices.Clone(table)
	hold(t, table, "k")
	if !Same(table, other) || Count(table, api.Live) != 4 {
		t.Error("before")
	}
	clear(table)
	hold(t, table, "k")
	if Find(table, "k") != -1 || Room(table, "k") != wantHome("k", 7) || Same(table, other) || Count(table, api.Live) != 0 || Count(table, api.Empty) != 7 {
		t.Error("after")
	}
}

// R4: the same calls tell the same, whatever was asked between them.
func TestSameAgain(t *testing.T) {
	table, _ := spare()
	at, room, n := Find(table, "k"), Room(table, "none"), Count(table, api.Live)
	for i := range 50 {
		key := strconv.Itoa(i)
		Find(table[i%7:], key)
		Room(table[:i%7], key)
		Same(table, table[i%7:])
		if Find(table, "k") != at || Room(table, "none") != room || Count(table, api.Live) != n || Home("k", 7) != wantHome("k", 7) {
			t.Fatal("unlike")
		}
	}
}

// entries is a table out of bytes: their lower bits tell the States, their upper ones the Keys, of which some are the key itself.
func entries(s, key string) []api.Entry {
	var t []api.Entry
	for i := range len(s) {
		state := states[int(s[i]%16)%len(states)]
		stands := []string{key, key + "o", "", key}[(s[i]>>4)%4]
		t = append(t, api.Entry{State: state, Key: stands, Backend: i, Deadline: int(s[i])})
	}
	return t
}

// P1, P2, R3 at tables and keys that a fuzzer makes up; as a plain test at these seeds.
func FuzzProbe(f *testing.F) {
	f.Add("", "", 0)
	f.Add("\x01", "k", 1)
	f.Add("\x11\x12\x01\x00\x11\x03", "a", -1)
	f.Add("\x11\x11\x11\x11\x11\x11\x11", "\x00\xff", math.MaxInt)
	f.Add("\x02\x12\x0d\x1c\x01\x31\x10\x01", strings.Repeat("k", 99), math.MinInt)
	f.Fuzz(func(t *testing.T, s, key string, n int) {
		if at := Home(key, n); at != wantHome(key, n) {
			t.Fatalf("Home %q %d: %d", key, n, at)
		}
		table := entries(s[:min(len(s), 200)], key)
		was := slices.Clone(table)
		for _, k := range []string{key, key + "o", "", s} {
			hold(t, table, k)
			if room := Room(table, k); room != -1 {
				put := slices.Clone(table)
				put[room] = live(k)
				if Find(put, k) != room || Same(put, table) {
					t.Fatalf("%v %q: put at %d", table, k, room)
				}
			}
		}
		left, seen := len(table), map[int]bool{}
		for _, state := range append(states, n) {
			if !seen[state] {
				left -= Count(table, state)
			}
			seen[state] = true
		}
		if left != 0 || !Same(table, was) || !slices.Equal(table, was) || len(table) > 0 && Same(table, table[1:]) {
			t.Fatalf("%v: %d left", table, left)
		}
	})
}
