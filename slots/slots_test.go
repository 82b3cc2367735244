package slots

import (
	"math"
	"slices"
	"testing"

	"gangplank/api"
	"gangplank/points"
	"gangplank/pool"
	"gangplank/ring"
)

// numbers is slots and Ids at which something might go wrong.
var numbers = []int{math.MinInt, math.MinInt + 1, -1 << 32, -1 << 31, -9, -8, -7, -2, -1, 0, 1, 2, 3, 6, 7, 8, 9, 255, 256, 65535, 65536, 1 << 31, 1 << 32, 1<<32 + 1, math.MaxInt - 1, math.MaxInt}

// sizes is numbers of slots that are asked for, and how many there are then.
var sizes = []struct{ n, want int }{
	{math.MinInt, 0}, {math.MinInt + 1, 0}, {-1 << 32, 0}, {-9, 0}, {-8, 0}, {-2, 0}, {-1, 0}, {0, 0}, {1, 1}, {2, 2}, {3, 3}, {4, 4}, {5, 5}, {6, 6}, {7, 7},
	{8, 8}, {9, 8}, {10, 8}, {16, 8}, {99, 8}, {255, 8}, {256, 8}, {257, 8}, {1 << 31, 8}, {1 << 32, 8}, {1<<32 + 1, 8}, {math.MaxInt - 1, 8}, {math.MaxInt, 8},
}

// b is a backend.
func b(id, weight int) api.Backend { return api.Backend{Id: id, Weight: weight} }

// list is a pool.
func list(bs ...api.Backend) []api.Backend { return bs }

// many is a pool of n backends, of the Ids from first on, of all Weights.
func many(first, n int) []api.Backend {
	var p []api.Backend
	for i := range n {
		p = append(p, b(first+i, (first+i)%16+1))
	}
	return p
}

// put is a pool with another backend at a place.
func put(p []api.Backend, at int, x api.Backend) []api.Backend {
	q := slices.Clone(p)
	q[at] = x
	return q
}

// pools is pools that may be.
func pools() [][]api.Backend {
	return [][]api.Backend{
		nil, list(), list(b(7, 1)), list(b(1, 1)), list(b(65535, 16)), list(b(4, 1), b(9, 2)), list(b(9, 2), b(4, 1)), list(b(1, 16), b(2, 1), b(3, 7)),
		list(b(65535, 1), b(1, 16), b(256, 3), b(255, 3)), many(1, 31), many(100, 32), many(65504, 32),
	}
}

// bad is pools of which pool.Check does not tell OK.
func bad() [][]api.Backend {
	all := [][]api.Backend{
		many(1, 33), many(1, 34), many(1, 1000), list(b(0, 0)), list(b(1, 1), b(1, 1)), list(b(1, 1), b(1, 2)), list(b(3, 1), b(2, 1), b(3, 1)), list(b(1, 1), b(2, 1), b(2, 1)),
		list(b(-1, -1)), list(b(65536, 17)), list(b(1<<32+1, 1)), list(b(1, 1<<32+1)), slices.Repeat(list(b(7, 1)), 32), make([]api.Backend, 1<<16),
	}
	for _, p := range [][]api.Backend{list(b(5, 5)), list(b(5, 5), b(6, 6)), many(1, 32)} {
		for at := range p {
			for _, n := range []int{math.MinInt, -65536, -1, 0, 65536, 65537, math.MaxInt} {
				all = append(all, put(p, at, b(n, 1)), put(p, at, b(200, n)))
			}
			all = append(all, put(p, at, b(200, 17)), put(p, at, b(200, -16)))
			if at > 0 {
				all = append(all, put(p, at, p[0]), put(p, at, b(p[at-1].Id, 1)))
			}
		}
	}
	return all
}

// hashes is hashes at the edges of 64 bits, and all over the ring.
func hashes() []uint64 {
	hs := []uint64{0, 1, 2, math.MaxUint64 - 1, math.MaxUint64}
	for bit := range 64 {
		h := uint64(1) << bit
		hs = append(hs, h-1, h, h+1, h*0x9e3779b97f4a7c15)
	}
	return hs
}

// around is those hashes, and those at each point of a pool, one below it and one above it.
func around(p []api.Backend) []uint64 {
	hs := hashes()
	for _, x := range points.Of(p) {
		hs = append(hs, x.Hash-1, x.Hash, x.Hash+1)
	}
	return hs
}

// want fails, if something is not so.
func want(t *testing.T, name string, so bool) {
	t.Helper()
	if !so {
		t.Error(name)
	}
}

// What a slot is, by what it tells.
const (
	spoiltNow = iota
	builtNow
	readyNow
)

// book is slots by the chapter's own sentences: of each slot that there is what it is, and, if it is ready, its pool.
type book struct {
	is    map[int]int
	pools map[int][]api.Backend
}

// newBook is a book of so many slots, all spoilt.
func newBook(n int) *book {
	k := &book{is: map[int]int{}, pools: map[int][]api.Backend{}}
	for i := range n {
		k.is[i] = spoiltNow
	}
	return k
}

// turn is what Begin and Spoil do.
func (k *book) turn(i, to int) bool {
	if _, there := k.is[i]; !there {
		return false
	}
	k.is[i] = to
	delete(k.pools, i)
	return true
}

// fill is what Fill does.
func (k *book) fill(i int, p []api.Backend) bool {
	if k.is[i] != builtNow || pool.Check(p) != api.OK {
		return false
	}
	k.is[i] = readyNow
	k.pools[i] = slices.Clone(p)
	return true
}

// read is what Has, Pick and Size tell.
func (k *book) read(i, id int, h uint64) told {
	if k.is[i] != readyNow {
		return told{}
	}
	has := slices.ContainsFunc(k.pools[i], func(x api.Backend) bool { return x.Id == id })
	return told{has, ring.Pick(k.pools[i], h), len(k.pools[i]), [3]bool{true, true, true}}
}

// told is what Has, Pick and Size tell of a slot, and whether each tells true.
type told struct {
	has        bool
	pick, size int
	ok         [3]bool
}

// tell is what slots tell of one slot.
func tell(s *Slots, i, id int, h uint64) told {
	var x told
	x.has, x.ok[0] = s.Has(i, id)
	x.pick, x.ok[1] = s.Pick(i, h)
	x.size, x.ok[2] = s.Size(i)
	return x
}

// hold holds what slots tell of one slot against what a book tells.
func hold(t *testing.T, s *Slots, k *book, i, id int, h uint64) {
	t.Helper()
	if got, want := tell(s, i, id, h), k.read(i, id, h); got != want {
		t.Fatalf("%d, Id %d, hash %d: %+v, not %+v", i, id, h, got, want)
	}
}

// holdAll holds what slots tell of all slots, and of the two around them, against what a book tells: also of whose Ids there are none.
func holdAll(t *testing.T, s *Slots, k *book) {
	t.Helper()
	for i := -1; i <= len(k.is); i++ {
		hold(t, s, k, i, 0, 0)
		for _, x := range k.pools[i] {
			hold(t, s, k, i, x.Id, points.Hash(x.Id, 0))
			hold(t, s, k, i, -x.Id, points.Hash(x.Id, 3)+1)
		}
	}
}

// nothing tells whether nothing is read of a slot: whatever is asked, false or 0 is told, and false.
func nothing(s *Slots, i int) bool {
	for _, n := range append([]int{4, 5}, numbers...) {
		if tell(s, i, n, uint64(n)*0x9e3779b97f4a7c15) != (told{}) || tell(s, i, n, uint64(n)) != (told{}) {
			return false
		}
	}
	return true
}

// holds tells whether a slot is ready with a pool. A pool's points are sorted once: what a hash goes to is told by ring.Succ, as ring.Pick tells it.
func holds(s *Slots, i int, p []api.Backend) bool {
	l, all := points.Of(p), [3]bool{true, true, true}
	for at, x := range append(slices.Clone(p), b(0, 0), b(-1, 1), b(77, 1)) {
		for _, h := range []uint64{0, 7, math.MaxUint64, points.Hash(x.Id, 0), points.Hash(x.Id, 1) + 1} {
			has := at < len(p) || slices.ContainsFunc(p, func(y api.Backend) bool { return y.Id == x.Id })
			if tell(s, i, x.Id, h) != (told{has, ring.Succ(l, h), len(p), all}) {
				return false
			}
		}
	}
	return true
}

// building is n slots, of which one is being built.
func building(n, i int) *Slots {
	s := New(n)
	s.Begin(i)
	return s
}

// filled is n slots, of which one is ready with a pool.
func filled(n, i int, p []api.Backend) *Slots {
	s := building(n, i)
	s.Fill(i, p)
	return s
}

// isBuilt tells whether a slot is being built, by filling it.
func isBuilt(s *Slots, i int) bool {
	p := list(b(3, 3))
	return nothing(s, i) && s.Fill(i, p) && holds(s, i, p)
}

// isSpoilt tells whether a slot is spoilt, by filling it.
func isSpoilt(s *Slots, i int) bool {
	return nothing(s, i) && !s.Fill(i, list(b(3, 3))) && nothing(s, i)
}

// P2: the chapter's examples.
func TestExamples(t *testing.T) {
	s := New(1)
	want(t, "Begin", s.Begin(0))
	want(t, "Fill", s.Fill(0, list(b(7, 1))))
	id, ok := s.Pick(0, 99)
	want(t, "Pick: 7, true", id == 7 && ok)
	want(t, "Spoil", s.Spoil(0))
	id, ok = s.Pick(0, 99)
	want(t, "Pick: 0, false", id == 0 && !ok)
}

// P1, P2: New of all numbers; all slots are spoilt at first.
func TestNew(t *testing.T) {
	for _, x := range sizes {
		s := New(x.n)
		for i := range x.want {
			if !isSpoilt(s, i) {
				t.Errorf("%d: %d is not spoilt", x.n, i)
			}
		}
		for i := range x.want {
			if !s.Begin(i) || !isBuilt(s, i) || !s.Spoil(i) || !isSpoilt(s, i) {
				t.Errorf("%d: %d is not there", x.n, i)
			}
		}
		for _, i := range []int{-1, x.want} {
			if s.Begin(i) || s.Fill(i, nil) || s.Spoil(i) || !nothing(s, i) {
				t.Errorf("%d: %d is there", x.n, i)
			}
		}
	}
}

// P2: there are as many slots as api's limit says.
func TestMost(t *testing.T) {
	s := New(api.MaxSlots + 1)
	want(t, "the last one", s.Begin(api.MaxSlots-1))
	want(t, "the one behind it", !s.Begin(api.MaxSlots))
}

// P1: slots that New did not make are none.
func TestZero(t *testing.T) {
	var s Slots
	want(t, "none", !s.Begin(0) && !s.Fill(0, nil) && !s.Spoil(0) && nothing(&s, 0))
}

// P2: Begin of a slot that is spoilt, of one that is being built, and of one that is ready: each is being built then.
func TestBegin(t *testing.T) {
	for n := 1; n <= 8; n++ {
		for i := range n {
			s := New(n)
			want(t, "spoilt", s.Begin(i) && isBuilt(s, i))
			s = building(n, i)
			want(t, "being built", s.Begin(i) && s.Begin(i) && isBuilt(s, i))
			for _, p := range pools() {
				s = filled(n, i, p)
				want(t, "ready", s.Begin(i) && isBuilt(s, i))
			}
			s = building(n, i)
			s.Spoil(i)
			want(t, "spoilt again", s.Begin(i) && isBuilt(s, i))
		}
	}
}

// P2: Spoil of each of the three, and once more: each is spoilt then, and may be built again.
func TestSpoil(t *testing.T) {
	for n := 1; n <= 8; n++ {
		for i := range n {
			s := New(n)
			want(t, "spoilt", s.Spoil(i) && s.Spoil(i) && isSpoilt(s, i))
			s = building(n, i)
			want(t, "being built", s.Spoil(i) && isSpoilt(s, i) && s.Spoil(i) && isSpoilt(s, i))
			for _, p := range pools() {
				s = filled(n, i, p)
				want(t, "ready", s.Spoil(i) && isSpoilt(s, i) && s.Spoil(i) && isSpoilt(s, i))
				want(t, "again", s.Begin(i) && isBuilt(s, i))
			}
		}
	}
}

// P1, P2: of a slot that there is not Begin, Fill and Spoil tell false, and nothing is read of it; no other slot is changed.
func TestNoSuchSlot(t *testing.T) {
	p := list(b(4, 1), b(9, 2))
	for n := range 9 {
		s := New(n)
		for i := range n {
			if i%3 > 0 {
				s.Begin(i)
			}
			if i%3 > 1 {
				s.Fill(i, p)
			}
		}
		for _, i := range append([]int{n, n + 1, -n}, numbers...) {
			if i >= 0 && i < n {
				continue
			}
			for range 2 {
				if s.Begin(i) || s.Fill(i, p) || s.Fill(i, nil) || s.Fill(i, list(b(0, 0))) || !nothing(s, i) || s.Spoil(i) || !nothing(s, i) {
					t.Fatal(n, i)
				}
			}
		}
		for i := range n {
			if i%3 == 0 && !isSpoilt(s, i) || i%3 == 1 && !isBuilt(s, i) || i%3 == 2 && !holds(s, i, p) {
				t.Error(n, i)
			}
		}
	}
}

// P2: Fill of a slot that is being built, with each pool that may be: with none, with one, and with as many as may be.
func TestFill(t *testing.T) {
	for n := 1; n <= 8; n++ {
		for i := range n {
			for j, p := range pools() {
				s := building(n, i)
				if !s.Fill(i, p) || !holds(s, i, p) {
					t.Errorf("%d of %d, pool %d", i, n, j)
				}
			}
		}
	}
	for n := range 34 {
		s := building(1, 0)
		if s.Fill(0, many(1, n)) != (n <= 32) {
			t.Errorf("%d backends", n)
		}
		if size, ok := s.Size(0); ok != (n <= 32) || size != n*[]int{1, 0}[n/33] {
			t.Errorf("%d backends: %d, %v", n, size, ok)
		}
	}
}

// P2, P5: Fill of a slot that is spoilt tells false, of all pools, and it still is spoilt.
func TestFillSpoilt(t *testing.T) {
	for _, p := range append(pools(), bad()...) {
		s := New(2)
		want(t, "at first", !s.Fill(1, p) && !s.Fill(1, p) && isSpoilt(s, 1))
		s = filled(2, 1, list(b(4, 1)))
		s.Spoil(1)
		want(t, "that was ready", !s.Fill(1, p) && isSpoilt(s, 1))
		s = building(2, 1)
		s.Spoil(1)
		want(t, "that was being built", !s.Fill(1, p) && isSpoilt(s, 1))
	}
}

// P2, P5: Fill of a slot that is ready tells false, of all pools, and it is ready with the pool that it had.
func TestFillReady(t *testing.T) {
	for _, had := range pools()[:10] {
		for _, p := range append(pools(), bad()...) {
			s := filled(2, 1, had)
			if s.Fill(1, p) || s.Fill(1, p) || !holds(s, 1, had) {
				t.Fatal(had, p)
			}
		}
	}
}

// P2, P5: Fill with each fault that pool.Check knows tells false, and the slot is still being built.
func TestFillBad(t *testing.T) {
	for _, p := range bad() {
		if pool.Check(p) == api.OK {
			t.Fatal(p)
		}
		for _, first := range []bool{true, false} {
			s := building(3, 1)
			if !first {
				s = filled(3, 1, list(b(4, 1)))
				s.Begin(1)
			}
			if s.Fill(1, p) || !nothing(s, 1) || s.Fill(1, p) || !isBuilt(s, 1) {
				t.Fatal(len(p), p[:min(len(p), 3)])
			}
		}
	}
	// What is cut off does not stand in the pool.
	s := building(1, 0)
	want(t, "cut off", s.Fill(0, many(1, 33)[:32]) && holds(s, 0, many(1, 32)))
	s = building(1, 0)
	want(t, "a bad one behind it", s.Fill(0, list(b(4, 1), b(0, 0))[:1]) && holds(s, 0, list(b(4, 1))))
}

// P2: Has of each Id of a pool, of those beside them, and of numbers of all kinds.
func TestHas(t *testing.T) {
	for _, p := range pools() {
		s := filled(1, 0, p)
		ids := slices.Clone(numbers)
		for _, x := range p {
			ids = append(ids, x.Id-1, x.Id, x.Id+1, -x.Id, x.Id+65536, x.Id+1<<32, x.Weight)
		}
		for _, id := range ids {
			has, ok := s.Has(0, id)
			if !ok || has != slices.ContainsFunc(p, func(x api.Backend) bool { return x.Id == id }) {
				t.Fatal(p, id, has, ok)
			}
		}
	}
}

// P2: Pick is ring.Pick, of hashes at all points and edges; it tells a backend of the pool.
func TestPick(t *testing.T) {
	for _, p := range pools() {
		s := filled(1, 0, p)
		// ring.Pick puts a pool's points in order at each call: of great pools some hashes do.
		hs := around(p)
		for at := 0; at < len(hs); at += 1 + len(hs)/600 {
			id, ok := s.Pick(0, hs[at])
			has, _ := s.Has(0, id)
			if !ok || id != ring.Pick(p, hs[at]) || has != (len(p) > 0) {
				t.Fatal(p, hs[at], id, ok)
			}
		}
	}
}

// P2: at a point of a backend alone that backend is picked, one above the last point that of the first.
func TestPickPoints(t *testing.T) {
	for _, p := range pools()[2:] {
		s, l := filled(1, 0, p), points.Of(p)
		for at, x := range l {
			if at > 0 && l[at-1].Hash == x.Hash {
				continue
			}
			id, ok := s.Pick(0, x.Hash)
			next, _ := s.Pick(0, x.Hash+1)
			if !ok || id != x.Id || at+1 < len(l) && l[at+1].Hash > x.Hash && next != l[at+1].Id || at+1 == len(l) && next != l[0].Id {
				t.Fatal(p, at, id, next, ok)
			}
		}
	}
}

// P2: the order of a pool is not seen in what is picked, the weights are.
func TestPickOrder(t *testing.T) {
	p := list(b(9, 2), b(4, 1), b(1, 16))
	q := slices.Clone(p)
	slices.Reverse(q)
	s, seen := New(3), false
	for i, x := range [][]api.Backend{p, q, put(p, 2, b(1, 1))} {
		s.Begin(i)
		s.Fill(i, x)
	}
	for _, h := range around(p) {
		one, _ := s.Pick(0, h)
		two, _ := s.Pick(1, h)
		three, _ := s.Pick(2, h)
		if one != two {
			t.Fatal(h, one, two)
		}
		seen = seen || one != three
	}
	want(t, "the weights", seen)
}

// P2: a slot that is ready with no backends tells so: nothing is in it, a hash goes to -1, and true.
func TestNoBackends(t *testing.T) {
	for _, p := range [][]api.Backend{nil, list(), many(1, 5)[:0], many(1, 5)[5:]} {
		s := filled(2, 1, p)
		for _, n := range numbers {
			if tell(s, 1, n, uint64(n)) != (told{false, -1, 0, [3]bool{true, true, true}}) {
				t.Fatal(n)
			}
		}
		want(t, "it is ready", !s.Fill(1, list(b(1, 1))) && nothing(s, 0))
	}
}

// P2: Size of pools of all sizes.
func TestSize(t *testing.T) {
	s := New(1)
	for _, n := range []int{32, 0, 1, 31, 2, 0, 3, 16, 17, 32, 1} {
		s.Begin(0)
		s.Fill(0, many(9, n))
		if size, ok := s.Size(0); size != n || !ok {
			t.Error(n, size, ok)
		}
	}
}

// What holds, P5: nothing is read of a slot that is spoilt or being built, also if it was ready once.
func TestNothingIsRead(t *testing.T) {
	for _, p := range pools() {
		s := New(2)
		want(t, "spoilt at first", nothing(s, 0))
		s.Begin(0)
		want(t, "being built", nothing(s, 0))
		s.Fill(0, bad()[0])
		want(t, "still being built", nothing(s, 0))
		s.Fill(0, p)
		want(t, "ready", holds(s, 0, p) && nothing(s, 1))
		s.Begin(0)
		want(t, "being built again", nothing(s, 0))
		s.Fill(0, p)
		want(t, "ready again", holds(s, 0, p))
		s.Spoil(0)
		want(t, "spoilt", nothing(s, 0))
		s.Fill(0, p)
		want(t, "still spoilt", nothing(s, 0))
		s.Begin(0)
		want(t, "being built once more", nothing(s, 0))
	}
}

// P2, R3: what was handed to Fill may be changed behind it: the slot's pool stays as it was; and nothing that was handed in is changed.
func TestOwnCopy(t *testing.T) {
	for _, p := range pools() {
		s, mine := New(2), append(make([]api.Backend, 0, 40), p...)
		s.Begin(0)
		s.Begin(1)
		if !s.Fill(0, mine) || !s.Fill(1, mine) || !slices.Equal(mine, p) {
			t.Fatal(p, mine)
		}
		if !slices.Equal(mine[:40][len(p):], make([]api.Backend, 40-len(p))) {
			t.Fatal(p, "behind it")
		}
		for i := range mine {
			mine[i] = b(77, 7)
		}
		_ = append(mine, b(78, 1))
		want(t, "changed behind it", holds(s, 0, p) && holds(s, 1, p))
		clear(mine)
		want(t, "cleared behind it", holds(s, 0, p) && holds(s, 1, p))
		s.Spoil(0)
		want(t, "the other one of the same pool", nothing(s, 0) && holds(s, 1, p))
	}
	for _, p := range bad() {
		was := slices.Clone(p)
		building(1, 0).Fill(0, p)
		New(1).Fill(0, p)
		if !slices.Equal(p, was) {
			t.Fatal(was, p)
		}
	}
	// A pool that was refused, mended, and handed in again.
	mine := list(b(4, 1), b(4, 1))
	s := building(1, 0)
	want(t, "refused", !s.Fill(0, mine))
	mine[1].Id = 5
	want(t, "mended", nothing(s, 0) && s.Fill(0, mine) && holds(s, 0, list(b(4, 1), b(5, 1))))
}

// P2, R3, R4: Has, Pick and Size change nothing: neither a slot, nor what was handed to Fill; they tell the same again.
func TestReadingChangesNothing(t *testing.T) {
	p := list(b(9, 2), b(4, 1))
	s := New(4)
	s.Begin(1)
	s.Begin(2)
	s.Fill(2, p)
	for range 3 {
		for i := -1; i <= 4; i++ {
			for _, n := range numbers {
				if tell(s, i, n, uint64(n)) != tell(s, i, n, uint64(n)) {
					t.Fatal(i, n)
				}
			}
		}
		want(t, "the slots", nothing(s, 0) && nothing(s, 1) && holds(s, 2, p) && nothing(s, 3))
		want(t, "the pool", slices.Equal(p, list(b(9, 2), b(4, 1))))
	}
	want(t, "what they are", isSpoilt(s, 0) && isBuilt(s, 1) && !s.Fill(2, nil) && isSpoilt(s, 3))
}

// P2: a slot that is built anew with another pool tells of that alone, while the others stay as they are.
func TestAnew(t *testing.T) {
	all := pools()
	for n := 2; n <= 8; n++ {
		s := New(n)
		for i := range n {
			s.Begin(i)
			s.Fill(i, many(10*i+1, i+2))
		}
		rest := func(but int, name string) {
			t.Helper()
			for i := range n {
				if i != but && !holds(s, i, many(10*i+1, i+2)) {
					t.Errorf("%d of %d: %s", i, n, name)
				}
			}
		}
		for i := range n {
			for _, p := range all {
				s.Begin(i)
				rest(i, "begun")
				want(t, "filled", s.Fill(i, p) && holds(s, i, p))
				rest(i, "filled")
				s.Spoil(i)
				rest(i, "spoilt")
				want(t, "filled again", s.Begin(i) && s.Fill(i, p) && holds(s, i, p))
			}
			s.Begin(i)
			s.Fill(i, many(10*i+1, i+2))
		}
		rest(-1, "all")
	}
}

// P2: two Slots do not disturb one another, also of the same numbers and of the same pool.
func TestTwo(t *testing.T) {
	for _, n := range []int{1, 3, 8} {
		p, q := many(1, 3), many(5, 2)
		c, d := New(n), New(n)
		for i := range n {
			c.Begin(i)
			want(t, "nothing of the other one is begun", !d.Fill(i, p) && c.Fill(i, p) && nothing(d, i))
			d.Begin(i)
			want(t, "nor is this one then", holds(c, i, p) && d.Fill(i, q) && holds(c, i, p) && holds(d, i, q))
			c.Spoil(i)
			want(t, "nothing of the other one is spoilt", holds(d, i, q) && isSpoilt(c, i))
			c.Begin(i)
			c.Fill(i, q)
			d.Begin(i)
			want(t, "of the same pool", holds(c, i, q) && isBuilt(d, i) && holds(c, i, q))
		}
	}
}

// P1: no call panics, at all these arguments; each tells what the chapter's sentences tell.
func TestAllArguments(t *testing.T) {
	some := [][]api.Backend{nil, list(b(4, 1), b(9, 2)), list(b(0, 0)), many(1, 33), list(b(math.MinInt, math.MaxInt), b(math.MaxInt, math.MinInt)), list(b(1, 1), b(1, 1))}
	for _, x := range sizes {
		s, k := New(x.n), newBook(x.want)
		for _, i := range append([]int{x.want - 1, x.want, x.want + 1}, numbers...) {
			for _, p := range some {
				if s.Fill(i, p) != k.fill(i, p) || s.Begin(i) != k.turn(i, builtNow) || s.Fill(i, p) != k.fill(i, p) {
					t.Fatal(x.n, i, p)
				}
				for _, n := range numbers {
					hold(t, s, k, i, n, uint64(n))
				}
				if s.Spoil(i) != k.turn(i, spoiltNow) {
					t.Fatal(x.n, i)
				}
				hold(t, s, k, i, 4, 4)
			}
		}
		holdAll(t, s, k)
	}
}

// call is one that changes slots: which one, of which slot, and with which pool.
type call struct{ kind, i, pool int }

// The kinds of calls.
const (
	begin = iota
	fill
	spoil
	kinds
)

// row does a call to slots and to a book, and tells whether both tell the same.
func (x call) row(s *Slots, k *book, of [][]api.Backend) bool {
	switch x.kind {
	case begin:
		return s.Begin(x.i) == k.turn(x.i, builtNow)
	case fill:
		return s.Fill(x.i, of[x.pool]) == k.fill(x.i, of[x.pool])
	}
	return s.Spoil(x.i) == k.turn(x.i, spoiltNow)
}

// P2: all rows of five calls, of no slot, of one slot and of two.
func TestAllShortRows(t *testing.T) {
	of := [][]api.Backend{list(b(4, 1)), list(b(9, 2), b(5, 1)), list(b(1, 0))}
	calls := []call{{begin, 0, 0}, {begin, 1, 0}, {spoil, 0, 0}, {spoil, 1, 0}, {fill, 0, 0}, {fill, 0, 1}, {fill, 0, 2}, {fill, 1, 0}, {fill, 1, 1}, {begin, 2, 0}}
	for n := range 3 {
		row := make([]call, 5)
		var next func(at int)
		next = func(at int) {
			if at < len(row) {
				for _, x := range calls {
					row[at] = x
					next(at + 1)
				}
				return
			}
			s, k := New(n), newBook(n)
			for _, x := range row {
				if !x.row(s, k, of) {
					t.Fatalf("%d: %+v: %+v", n, row, x)
				}
			}
			for i := range 3 {
				hold(t, s, k, i, 4, 1<<63)
				hold(t, s, k, i, 9, 7)
			}
		}
		next(0)
	}
}

// chance is a function that tells numbers from 0 on that are below another one, the same ones each time.
func chance(seed uint64) func(int) int {
	return func(n int) int {
		seed = seed*6364136223846793005 + 1442695040888963407
		return int(seed >> 33 % uint64(n))
	}
}

// P2, R4: long rows of calls, held against a book, and told alike twice.
func TestLongRows(t *testing.T) {
	next := chance(5)
	of := append(pools()[:9], bad()[:9]...)
	for _, size := range sizes {
		s, again, k, other := New(size.n), New(size.n), newBook(size.want), newBook(size.want)
		for range 1500 {
			x := call{next(kinds), next(size.want+2) - 1, next(len(of))}
			if next(10) == 0 {
				x.i = numbers[next(len(numbers))]
			}
			if !x.row(s, k, of) || !x.row(again, other, of) {
				t.Fatalf("%d: %+v", size.n, x)
			}
			i, id, h := next(size.want+2)-1, next(11), uint64(next(1<<31))<<33
			hold(t, s, k, i, id, h)
			hold(t, again, k, i, id, h)
		}
		holdAll(t, s, k)
	}
}

// P5: one who writes goes through slots step by step, and makes what is ready current; whoever looks at any slot in between reads nothing but what was filled in last, and only of what is ready.
func TestSteps(t *testing.T) {
	next := chance(9)
	for n := 2; n <= 8; n++ {
		s, current, wrote := New(n), -1, make([][]api.Backend, n)
		look := func() {
			t.Helper()
			for i, p := range wrote {
				if p == nil && !nothing(s, i) || p != nil && !holds(s, i, p) {
					t.Fatal(n, i, p)
				}
			}
			if current >= 0 && wrote[current] == nil {
				t.Fatal(n, current)
			}
		}
		for range 40 {
			at := next(n)
			if at == current {
				continue
			}
			s.Spoil(at)
			wrote[at] = nil
			look()
			s.Begin(at)
			look()
			p := many(1+next(99), 1+next(4))
			want(t, "filled", s.Fill(at, p))
			wrote[at] = p
			look()
			current = at
		}
	}
}

// P1, P2: whatever rows of calls there are.
func FuzzSlots(f *testing.F) {
	f.Add(1, "\x00\x00\x00\x01\x00\x07\x02\x00\x00", uint64(0))
	f.Add(-1, "\x00\x00\x00\x81\xff\x00", uint64(math.MaxUint64))
	f.Add(math.MaxInt, "\x00\x07\x00\x01\x07\x21\x00\x07\x00\x01\x07\x22\x82\x40\x40", uint64(1)<<63)
	f.Fuzz(func(t *testing.T, n int, row string, h uint64) {
		s, k := New(n), newBook(min(max(n, 0), 8))
		for ; len(row) >= 3; row = row[3:] {
			// The pools grow with a byte's lower bits, and its upper ones say where a fault may stand.
			x := call{kind: int(row[0]) % kinds, i: int(int8(row[1]))}
			p := many(int(row[2])+1, int(row[2]%34))
			if len(p) > 0 && row[2] >= 192 {
				p[int(row[0])%len(p)] = b(int(int8(row[1]))<<10, int(int8(row[2])))
			}
			if row[0] >= 128 {
				x.i <<= 57
			}
			if !x.row(s, k, [][]api.Backend{p}) {
				t.Fatalf("%d: %+v: %v", n, x, p)
			}
			hold(t, s, k, x.i, int(row[2])+1, h+uint64(row[2])<<56)
		}
		holdAll(t, s, k)
	})
}
