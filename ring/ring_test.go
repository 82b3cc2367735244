package ring

import (
	"math"
	"slices"
	"testing"

	"gangplank/api"
	"gangplank/points"
)

// b is a backend.
func b(id, weight int) api.Backend { return api.Backend{Id: id, Weight: weight} }

// pool is a list of backends.
func pool(bs ...api.Backend) []api.Backend { return bs }

// pt is a point.
func pt(hash uint64, id int) api.Point { return api.Point{Hash: hash, Id: id} }

// at is points at these hashes, whose Ids are 1, 2 and so on.
func at(hashes ...uint64) []api.Point {
	var l []api.Point
	for i, h := range hashes {
		l = append(l, pt(h, i+1))
	}
	return l
}

// wantSucc is Succ by the chapter's own sentence: one point behind the other is asked.
func wantSucc(l []api.Point, h uint64) int {
	for _, x := range l {
		if x.Hash >= h {
			return x.Id
		}
	}
	if len(l) > 0 {
		return l[0].Id
	}
	return -1
}

// wantPick is Pick by the chapter's own sentence.
func wantPick(p []api.Backend, h uint64) int { return wantSucc(points.Of(p), h) }

// wantMoved is Moved by the chapter's own sentence.
func wantMoved(p, q []api.Backend, hs []uint64) []int {
	l, k := points.Of(p), points.Of(q)
	var places []int
	for i, h := range hs {
		if wantSucc(l, h) != wantSucc(k, h) {
			places = append(places, i)
		}
	}
	return places
}

// edges is hashes at the edges of 64 bits.
func edges() []uint64 {
	hs := []uint64{0, 1, 2, math.MaxUint64 - 1, math.MaxUint64}
	for bit := range 64 {
		h := uint64(1) << bit
		hs = append(hs, h-1, h, h+1)
	}
	return hs
}

// around is hashes at each point, one below and one above it, between it and the next one, and at the edges.
func around(l []api.Point) []uint64 {
	hs := edges()
	for i, x := range l {
		hs = append(hs, x.Hash-1, x.Hash, x.Hash+1)
		if i > 0 {
			hs = append(hs, x.Hash-(x.Hash-l[i-1].Hash)/2)
		}
	}
	return hs
}

// spread is n hashes all over the ring.
func spread(n int) []uint64 {
	var hs []uint64
	for i := range n {
		hs = append(hs, uint64(i)*0x9e3779b97f4a7c15+uint64(i*i))
	}
	return hs
}

// orders is all orders in which things may stand.
func orders[T any](l []T) [][]T {
	if len(l) == 0 {
		return [][]T{nil}
	}
	var all [][]T
	for i := range l {
		rest := slices.Delete(slices.Clone(l), i, i+1)
		for _, k := range orders(rest) {
			all = append(all, append([]T{l[i]}, k...))
		}
	}
	return all
}

// allIn is the places of all hashes of which something is so.
func allIn(hs []uint64, so func(h uint64) bool) []int {
	var places []int
	for i, h := range hs {
		if so(h) {
			places = append(places, i)
		}
	}
	return places
}

// without is a pool without all of an Id.
func without(p []api.Backend, id int) []api.Backend {
	return slices.DeleteFunc(slices.Clone(p), func(x api.Backend) bool { return x.Id == id })
}

// pools is lists of backends with unlike Ids, of which some may be in no pool.
func pools() [][]api.Backend {
	var full []api.Backend
	for i := range 32 {
		full = append(full, b(65535-i*2000, 16))
	}
	return [][]api.Backend{
		pool(b(1, 1)),
		pool(b(65535, 16)),
		pool(b(1, 1), b(2, 1)),
		pool(b(3, 2), b(1, 1), b(9, 5), b(8, 16)),
		pool(b(9, 17), b(4, 0), b(7, 1), b(6, -1)),
		pool(b(0, 1), b(-2, 2), b(65536, 3), b(math.MinInt, 1), b(math.MaxInt, 1)),
		pool(b(1, 2), b(1<<32+1, 3), b(1-1<<32, 1), b(2, 1)),
		full,
	}
}

// P2: the chapter's example.
func TestExamples(t *testing.T) {
	l := []api.Point{pt(5, 1), pt(9, 2)}
	for h, want := range map[uint64]int{5: 1, 6: 2, 10: 1} {
		if id := Succ(l, h); id != want {
			t.Errorf("%d: %d, not %d", h, id, want)
		}
	}
}

// P1, P2: no points: -1, whatever the hash.
func TestSuccOfNone(t *testing.T) {
	for _, h := range edges() {
		if Succ(nil, h) != -1 || Succ([]api.Point{}, h) != -1 || Succ(at(5, 9)[:0], h) != -1 {
			t.Errorf("%d", h)
		}
	}
}

// P2: one point has all hashes, wherever it stands; its Id may be any number.
func TestSuccOfOne(t *testing.T) {
	for _, x := range edges() {
		for _, id := range []int{1, 7, 65535, 0, -1, -2, math.MinInt, math.MaxInt} {
			l := []api.Point{pt(x, id)}
			for _, h := range around(l) {
				if got := Succ(l, h); got != id {
					t.Fatalf("%v %d: %d", l, h, got)
				}
			}
		}
	}
}

// P2: answers that were written out: below the first point, at one, between two, one above and one below, above the last.
func TestSuccByHand(t *testing.T) {
	const top = math.MaxUint64
	for _, x := range []struct {
		l    []api.Point
		h    uint64
		want int
	}{
		{at(5, 9), 0, 1},
		{at(5, 9), 4, 1},
		{at(5, 9), 5, 1},
		{at(5, 9), 6, 2},
		{at(5, 9), 7, 2},
		{at(5, 9), 8, 2},
		{at(5, 9), 9, 2},
		{at(5, 9), 10, 1},
		{at(5, 9), 1 << 63, 1},
		{at(5, 9), top, 1},
		{at(5, 9, 13), 9, 2},
		{at(5, 9, 13), 10, 3},
		{at(5, 9, 13), 12, 3},
		{at(5, 9, 13), 13, 3},
		{at(5, 9, 13), 14, 1},
		{at(0, top), 0, 1},
		{at(0, top), 1, 2},
		{at(0, top), 1 << 63, 2},
		{at(0, top), top - 1, 2},
		{at(0, top), top, 2},
		{at(0, 1), 2, 1},
		{at(0, 1), top, 1},
		{at(top-1, top), 0, 1},
		{at(top-1, top), top - 1, 1},
		{at(top-1, top), top, 2},
		{at(1<<63-1, 1<<63, 1<<63+1), 0, 1},
		{at(1<<63-1, 1<<63, 1<<63+1), 1<<63 - 1, 1},
		{at(1<<63-1, 1<<63, 1<<63+1), 1 << 63, 2},
		{at(1<<63-1, 1<<63, 1<<63+1), 1<<63 + 1, 3},
		{at(1<<63-1, 1<<63, 1<<63+1), 1<<63 + 2, 1},
		{at(1<<63-1, 1<<63, 1<<63+1), top, 1},
		{at(1, 1<<63+5), 1 << 63, 2},
		{at(1, 1<<63-5), 1 << 63, 1},
		{at(1, 1<<32, 1<<33), 2, 2},
		{at(1, 1<<32, 1<<33), 1<<32 + 1, 3},
		{at(1, 1<<32, 1<<33), 1<<33 + 1, 1},
		{[]api.Point{pt(5, 9), pt(6, -4)}, 6, -4},
		{[]api.Point{pt(5, math.MinInt), pt(6, math.MaxInt)}, 7, math.MinInt},
	} {
		if id := Succ(x.l, x.h); id != x.want {
			t.Errorf("%v %d: %d, not %d", x.l, x.h, id, x.want)
		}
	}
}

// P2: of several points of one Hash the first one is told: at the beginning, amid others, at the end, and where all have it.
func TestSuccOfLikeHashes(t *testing.T) {
	for _, x := range []struct {
		hashes []uint64
		h      uint64
		want   int
	}{
		{[]uint64{5, 5, 9}, 5, 1},
		{[]uint64{5, 5, 9}, 0, 1},
		{[]uint64{5, 5, 9}, 6, 3},
		{[]uint64{5, 5, 9}, 10, 1},
		{[]uint64{1, 5, 5, 5, 9}, 2, 2},
		{[]uint64{1, 5, 5, 5, 9}, 5, 2},
		{[]uint64{1, 5, 5, 5, 9}, 6, 5},
		{[]uint64{1, 9, 9, 9, 9}, 8, 2},
		{[]uint64{1, 9, 9, 9, 9}, 9, 2},
		{[]uint64{1, 9, 9, 9, 9}, 10, 1},
		{[]uint64{0, 0, 0}, 0, 1},
		{[]uint64{0, 0, 0}, 1, 1},
		{[]uint64{7, 7, 7, 7}, 7, 1},
		{[]uint64{math.MaxUint64, math.MaxUint64}, math.MaxUint64, 1},
		{[]uint64{3, math.MaxUint64, math.MaxUint64}, math.MaxUint64, 2},
		{[]uint64{1 << 63, 1 << 63, 1 << 63}, 1 << 63, 1},
	} {
		if id := Succ(at(x.hashes...), x.h); id != x.want {
			t.Errorf("%v %d: %d, not %d", x.hashes, x.h, id, x.want)
		}
	}
	// The same point more than once: two backends of one Id have such.
	if l := []api.Point{pt(3, 1), pt(5, 2), pt(5, 2), pt(5, 4)}; Succ(l, 4) != 2 || Succ(l, 6) != 1 {
		t.Error("twice")
	}
}

// P2: all small rings with all small hashes.
func TestSuccOfFew(t *testing.T) {
	for n := range 7 {
		// Each number below 4^n is n steps of 0 to 3 from one point on to the next.
		for steps := range 1 << (2 * n) {
			var l []api.Point
			hash := 0
			for i := range n {
				hash += steps >> (2 * i) & 3
				l = append(l, pt(uint64(hash), 10+i))
			}
			for h := range uint64(hash + 3) {
				if id := Succ(l, h); id != wantSucc(l, h) {
					t.Fatalf("%v %d: %d", l, h, id)
				}
			}
		}
	}
}

// P2: many points: each of them is told, at counts of all kinds, and behind the last one the first.
func TestSuccOfMany(t *testing.T) {
	for _, n := range []int{1, 2, 3, 4, 5, 7, 8, 9, 31, 32, 33, 63, 64, 65, 127, 128, 1000, 4095, 4096, 4097} {
		var l []api.Point
		step := math.MaxUint64 / uint64(n+1)
		for i := range n {
			l = append(l, pt(uint64(i+1)*step, i+1))
		}
		for i, x := range l {
			next := (i+1)%n + 1
			if Succ(l, x.Hash) != x.Id || Succ(l, x.Hash-1) != x.Id || Succ(l, x.Hash-step/2) != x.Id || Succ(l, x.Hash-step+1) != x.Id {
				t.Fatalf("%d points, at %d", n, i)
			}
			if id := Succ(l, x.Hash+1); id != next {
				t.Fatalf("%d points, behind %d: %d", n, i, id)
			}
		}
		if Succ(l, 0) != 1 || Succ(l, math.MaxUint64) != 1 {
			t.Errorf("%d points, at the ends", n)
		}
	}
}

// P2: points of pools, with all hashes around them.
func TestSuccOfPools(t *testing.T) {
	for _, p := range pools() {
		l := points.Of(p)
		for _, h := range around(l) {
			if id := Succ(l, h); id != wantSucc(l, h) {
				t.Fatalf("%v %d: %d", p, h, id)
			}
		}
	}
}

// P1: points in no order: one of their Ids, without a panic. (Such an answer is not said, but R4 holds.)
func TestSuccInNoOrder(t *testing.T) {
	check := func(l []api.Point, h uint64) {
		t.Helper()
		id := Succ(l, h)
		if !slices.ContainsFunc(l, func(x api.Point) bool { return x.Id == id }) || id != Succ(l, h) {
			t.Fatalf("%v %d: %d", l, h, id)
		}
	}
	for _, l := range orders(at(1, 5, 5, 9, 1<<63, math.MaxUint64)) {
		for _, h := range []uint64{0, 1, 2, 5, 6, 9, 10, 1 << 63, 1<<63 + 1, math.MaxUint64} {
			check(l, h)
		}
	}
	l := points.Of(pool(b(3, 2), b(1, 16), b(9, 5)))
	slices.Reverse(l)
	for _, h := range append(edges(), spread(500)...) {
		check(l, h)
		check(append(slices.Clone(l[50:]), l[:50]...), h)
		check([]api.Point{pt(9, 1), pt(1, 2)}, h)
	}
	// Points of one Hash, whose Ids fall.
	check([]api.Point{pt(5, 9), pt(5, 7), pt(5, 8)}, 5)
}

// P1: more points than any pool has, in order and in none.
func TestSuccOfLong(t *testing.T) {
	const n = 1 << 20
	l := make([]api.Point, n)
	for i := range l {
		l[i] = pt(uint64(i)<<44, i)
	}
	// Each of them is sought: that ends soon where the place is found by halving.
	for i := range n {
		if Succ(l, uint64(i)<<44) != i || Succ(l, uint64(i)<<44+1) != (i+1)%n {
			t.Fatal(i)
		}
	}
	if Succ(l, (n-1)<<44) != n-1 || Succ(l, (n-1)<<44+1) != 0 || Succ(l, math.MaxUint64) != 0 {
		t.Error("last")
	}
	slices.Reverse(l)
	for _, h := range edges() {
		if id := Succ(l, h); id < 0 || id >= n {
			t.Error(h, id)
		}
	}
}

// P1, P2: no backend, and backends that have no points: -1.
func TestPickOfNone(t *testing.T) {
	for _, p := range [][]api.Backend{nil, {}, pool(b(1, 0)), pool(b(1, -1)), pool(b(1, 0), b(2, -5), b(3, math.MinInt)), make([]api.Backend, 1000)} {
		for _, h := range edges() {
			if id := Pick(p, h); id != -1 {
				t.Fatalf("%v %d: %d", p, h, id)
			}
		}
	}
}

// P2: one backend that has points has all hashes, beside none or such as have no points.
func TestPickOfOne(t *testing.T) {
	for _, id := range []int{1, 2, 7, 65535, 0, -1, -3, 1 << 40, math.MinInt, math.MaxInt} {
		for _, weight := range []int{1, 2, 16, 17, math.MaxInt} {
			for _, h := range []uint64{0, 1, 1<<63 - 1, 1 << 63, 1<<63 + 1, math.MaxUint64, points.Hash(id, 0), points.Hash(id, 7) + 1} {
				if Pick(pool(b(id, weight)), h) != id || Pick(pool(b(5, 0), b(id, weight), b(6, -1)), h) != id {
					t.Fatalf("%d %d: %d", id, weight, h)
				}
			}
		}
	}
}

// P2: answers that were worked out by hand: the Id 7 with the weight 1 has its points from 0x0491a703e42c2b90 to 0x5d59dd2d51581445.
func TestPickByHand(t *testing.T) {
	p := pool(b(7, 1), b(2, 1))
	first, last := uint64(0x491a703e42c2b90), uint64(0x5d59dd2d51581445)
	if Pick(p, first) != 7 || Pick(p, last) != 7 {
		t.Error("at its points")
	}
	l := points.Of(p)
	for i, x := range l {
		next := l[(i+1)%len(l)]
		if Pick(p, x.Hash) != x.Id || Pick(p, x.Hash+1) != next.Id {
			t.Errorf("at %d", i)
		}
	}
	if Pick(p, 0) != l[0].Id || Pick(p, l[0].Hash-1) != l[0].Id || Pick(p, math.MaxUint64) != l[0].Id {
		t.Error("at the ends")
	}
}

// P2: Pick is Succ of the pool's points.
func TestPick(t *testing.T) {
	for _, p := range pools() {
		l := points.Of(p)
		hs := around(l)
		// All points of a great pool would be sorted once for each hash.
		for i := 0; i < len(hs); i += 1 + len(hs)/500 {
			if id := Pick(p, hs[i]); id != Succ(l, hs[i]) || id != wantPick(p, hs[i]) {
				t.Fatalf("%v %d: %d", p, hs[i], id)
			}
		}
	}
}

// P2: backends may stand in whatever order, such of one Id and such of like Hashes among them.
func TestPickHangsOnNoOrder(t *testing.T) {
	for _, p := range [][]api.Backend{
		pool(b(1, 1), b(2, 2)),
		pool(b(3, 2), b(1, 1), b(9, 0), b(65535, 3)),
		pool(b(1, 3), b(1, 1), b(2, 3), b(-1, 1)),
		pool(b(1, 2), b(1<<32+1, 3), b(1-1<<32, 1), b(2, 1)),
	} {
		hs := append(around(points.Of(p)), spread(100)...)
		for _, q := range orders(p) {
			for _, h := range hs {
				if Pick(q, h) != wantPick(p, h) {
					t.Fatalf("%v, %v %d", p, q, h)
				}
			}
			if moved := Moved(p, q, hs); len(moved) != 0 {
				t.Fatalf("%v, %v: %v", p, q, moved)
			}
		}
	}
}

// P2: at a backend's own points its Id is told; of those of like Hashes the least one.
func TestPickAtOwnPoints(t *testing.T) {
	for _, p := range pools() {
		for _, x := range p {
			for _, n := range []int{0, 7, 8, 15, 127} {
				if n >= 8*x.Weight {
					break
				}
				want := x.Id
				for _, y := range p {
					if uint32(y.Id) == uint32(x.Id) && n < 8*y.Weight {
						want = min(want, y.Id)
					}
				}
				if id := Pick(p, points.Hash(x.Id, n)); id != want {
					t.Fatalf("%v, at point %d of %d: %d, not %d", p, n, x.Id, id, want)
				}
			}
		}
	}
}

// P2: no hashes, the same pool twice, a pool and none, and none twice.
func TestMovedAtEdges(t *testing.T) {
	hs := append(edges(), spread(300)...)
	all := allIn(hs, func(uint64) bool { return true })
	for _, p := range pools() {
		if len(Moved(p, nil, nil)) != 0 || len(Moved(nil, p, []uint64{})) != 0 || len(Moved(p, p, nil)) != 0 {
			t.Errorf("%v: no hashes", p)
		}
		if len(Moved(p, p, hs)) != 0 || len(Moved(p, slices.Clone(p), hs)) != 0 {
			t.Errorf("%v: the same", p)
		}
		if !slices.Equal(Moved(p, nil, hs), all) || !slices.Equal(Moved(nil, p, hs), all) || !slices.Equal(Moved(p, pool(b(1, 0)), hs), all) {
			t.Errorf("%v: none", p)
		}
	}
	if len(Moved(nil, nil, hs)) != 0 || len(Moved(nil, pool(), hs)) != 0 || len(Moved(pool(b(1, 0)), pool(b(2, -1)), hs)) != 0 {
		t.Error("none twice")
	}
	// An Id that is told like none: what is not alike moves, and these are.
	if len(Moved(pool(b(-1, 3)), nil, hs)) != 0 || len(Moved(nil, pool(b(-1, 1)), hs)) != 0 {
		t.Error("-1")
	}
	if !slices.Equal(Moved(pool(b(1, 1)), pool(b(2, 1)), hs), all) || len(Moved(pool(b(1, 1)), pool(b(1, 16)), hs)) != 0 {
		t.Error("one each")
	}
}

// P2: places that were worked out by hand, of one hash and of several; the same hash more than once has all its places.
func TestMovedByHand(t *testing.T) {
	// The first point of the Id 7 goes to it, as long as it is there.
	p, q := pool(b(7, 1), b(2, 1)), pool(b(2, 1))
	goes, stays := points.Hash(7, 0), points.Hash(2, 0)
	for _, x := range []struct {
		hs   []uint64
		want []int
	}{
		{[]uint64{goes}, []int{0}},
		{[]uint64{stays}, nil},
		{[]uint64{stays, goes}, []int{1}},
		{[]uint64{goes, stays}, []int{0}},
		{[]uint64{goes, goes}, []int{0, 1}},
		{[]uint64{goes, goes, goes, goes}, []int{0, 1, 2, 3}},
		{[]uint64{stays, stays, stays}, nil},
		{[]uint64{stays, goes, stays, goes, goes, stays}, []int{1, 3, 4}},
		{[]uint64{goes, stays, points.Hash(7, 3), stays, goes}, []int{0, 2, 4}},
	} {
		if got := Moved(p, q, x.hs); !slices.Equal(got, x.want) {
			t.Errorf("%v: %v, not %v", x.hs, got, x.want)
		}
		if got := Moved(q, p, x.hs); !slices.Equal(got, x.want) {
			t.Errorf("%v, back: %v, not %v", x.hs, got, x.want)
		}
	}
}

// P2: any two pools: just those of which Pick tells not the same, rising, in whatever order the hashes stand.
func TestMoved(t *testing.T) {
	hs := append(edges(), spread(400)...)
	hs = append(hs, hs[:100]...)
	turned := slices.Clone(hs)
	slices.Reverse(turned)
	for _, p := range pools() {
		for _, q := range pools() {
			for _, list := range [][]uint64{hs, turned} {
				moved := Moved(p, q, list)
				if !slices.Equal(moved, wantMoved(p, q, list)) {
					t.Fatalf("%v, %v: %v", p, q, moved)
				}
				for i := 1; i < len(moved); i++ {
					if moved[i-1] >= moved[i] {
						t.Fatalf("%v, %v: %v do not rise", p, q, moved)
					}
				}
			}
		}
	}
	// Asked by Pick itself, where the pools are small.
	p, q := pool(b(3, 2), b(1, 1), b(9, 5)), pool(b(3, 1), b(9, 7), b(4, 1))
	if want := allIn(hs, func(h uint64) bool { return Pick(p, h) != Pick(q, h) }); !slices.Equal(Moved(p, q, hs), want) || len(want) == 0 || len(want) == len(hs) {
		t.Error(len(want))
	}
}

// P2, P5: without a backend just the hashes that went to it move; all others stay where they were.
func TestWithoutOne(t *testing.T) {
	for _, p := range pools() {
		l := points.Of(p)
		hs := append(around(l), spread(300)...)
		for _, x := range p {
			q := without(p, x.Id)
			went := allIn(hs, func(h uint64) bool { return Succ(l, h) == x.Id })
			if moved := Moved(p, q, hs); !slices.Equal(moved, went) {
				t.Fatalf("%v without %v: %v, not %v", p, x, moved, went)
			}
			k := points.Of(q)
			for _, h := range hs {
				before, after := Succ(l, h), Succ(k, h)
				if after == x.Id || before != x.Id && after != before {
					t.Fatalf("%v without %v, %d: from %d to %d", p, x, h, before, after)
				}
			}
		}
	}
}

// P2, P5: with a backend more just those hashes move that go to it; all others stay where they were.
func TestWithOneMore(t *testing.T) {
	for _, p := range pools() {
		l := points.Of(p)
		for _, x := range pool(b(77, 1), b(4711, 16), b(64, 99), b(5, 0), b(-9, 3), b(1<<33+1, 2)) {
			q := append(slices.Clone(p), x)
			k := points.Of(q)
			hs := append(around(k), spread(300)...)
			come := allIn(hs, func(h uint64) bool { return Succ(k, h) == x.Id })
			if moved := Moved(p, q, hs); !slices.Equal(moved, come) {
				t.Fatalf("%v with %v: %v, not %v", p, x, moved, come)
			}
			// One of like Hashes may have none: a lesser Id stands ahead.
			if hasPoints := x.Weight > 0; x.Id < 1<<32 && hasPoints != (len(come) > 0) {
				t.Fatalf("%v with %v: %v", p, x, come)
			}
			for _, h := range hs {
				before, after := Succ(l, h), Succ(k, h)
				if before == x.Id || after != x.Id && after != before {
					t.Fatalf("%v with %v, %d: from %d to %d", p, x, h, before, after)
				}
			}
		}
	}
}

// P5: a backend that comes and goes leaves all as it was; so does one whose place another one takes, for those of the rest.
func TestThereAndBack(t *testing.T) {
	p := pool(b(3, 2), b(1, 1), b(9, 5), b(8, 16))
	hs := spread(2000)
	if moved := Moved(p, without(append(slices.Clone(p), b(77, 4)), 77), hs); len(moved) != 0 {
		t.Error(moved)
	}
	q := append(without(p, 9), b(77, 5))
	for _, i := range Moved(p, q, hs) {
		if Pick(p, hs[i]) != 9 && Pick(q, hs[i]) != 77 {
			t.Errorf("%d", hs[i])
		}
	}
	// A greater weight draws hashes to its backend alone.
	more := pool(b(3, 4), b(1, 1), b(9, 5), b(8, 16))
	moved := Moved(p, more, hs)
	for _, i := range moved {
		if Pick(more, hs[i]) != 3 {
			t.Errorf("%d", hs[i])
		}
	}
	if len(moved) == 0 {
		t.Error("none moved")
	}
}

// P1: lists of hashes and of backends that are longer than any pool.
func TestMovedOfLong(t *testing.T) {
	hs := spread(1 << 18)
	var p []api.Backend
	for i := range 1000 {
		p = append(p, b(i-300, i%20-1))
	}
	q := p[1:]
	l, k := points.Of(p), points.Of(q)
	if want := allIn(hs, func(h uint64) bool { return Succ(l, h) != Succ(k, h) }); !slices.Equal(Moved(p, q, hs), want) {
		t.Error(len(want))
	}
	if moved := Moved(p, nil, hs); len(moved) < len(hs)*9/10 || moved[len(moved)-1] >= len(hs) {
		t.Error(len(moved))
	}
}

// spare is lists of their own with things behind them that are none of them; the whole ones have them, too.
func spare() (p, wholeP []api.Backend, l, wholeL []api.Point, hs, wholeHs []uint64) {
	wholeP = pool(b(5, 1), b(2, 3), b(9, 17), b(2, 1), b(77, 7), b(78, 8))
	wholeL = []api.Point{pt(9, 3), pt(5, 1), pt(5, 0), pt(1<<63, 7), pt(3, 3), pt(0, 0)}
	wholeHs = []uint64{9, 5, 1 << 63, 5, 0, math.MaxUint64, 4, 4}
	return wholeP[:4], wholeP, wholeL[:4], wholeL, wholeHs[:6], wholeHs
}

// R3: a list that is handed in is changed by no call, nor is what stands behind it.
func TestArgumentsStay(t *testing.T) {
	p, wholeP, l, wholeL, hs, wholeHs := spare()
	_, wasP, _, wasL, _, wasHs := spare()
	check := func(call string) {
		t.Helper()
		if !slices.Equal(wholeP, wasP) || !slices.Equal(wholeL, wasL) || !slices.Equal(wholeHs, wasHs) {
			t.Errorf("%s: %v %v %v", call, wholeP, wholeL, wholeHs)
		}
	}
	for _, h := range edges() {
		Succ(l, h)
		check("Succ")
		Pick(p, h)
		check("Pick")
	}
	Moved(p, p[1:], hs)
	Moved(p[2:], p, hs)
	Moved(p, nil, hs)
	Moved(nil, p, hs)
	check("Moved")
}

// R3: an answer that was told is changed by no later call.
func TestAnswersStay(t *testing.T) {
	p, _, l, _, hs, _ := spare()
	told := Moved(p, nil, hs)
	was := slices.Clone(told)
	if len(was) != 6 {
		t.Fatal(was)
	}
	Moved(nil, p, hs[1:])
	Moved(p, p[:1], slices.Repeat(hs, 3))
	Moved(p, p, hs)
	Moved(p, nil, nil)
	Pick(p, 3)
	Succ(l, 3)
	if !slices.Equal(told, was) {
		t.Error(told)
	}
}

// An answer is its owner's: what is done to it is seen in no later one, nor in the lists that it was made of.
func TestAnswersAreNew(t *testing.T) {
	p, wholeP, _, _, hs, wholeHs := spare()
	_, wasP, _, _, _, wasHs := spare()
	told := Moved(p, nil, hs)
	want := slices.Clone(told)
	clear(told[:cap(told)])
	if !slices.Equal(wholeP, wasP) || !slices.Equal(wholeHs, wasHs) || !slices.Equal(Moved(p, nil, hs), want) {
		t.Error("what was told is kept")
	}
	again := Moved(p, nil, hs)
	clear(wholeHs)
	clear(wholeP)
	if !slices.Equal(again, want) || Pick(p, 3) != -1 || len(Moved(p, nil, hs)) != 0 {
		t.Error("what was handed in is kept")
	}
}

// R4: the same calls tell the same, whatever was asked between them.
func TestSameAgain(t *testing.T) {
	p, _, l, _, hs, _ := spare()
	id, picked, moved := Succ(l, 6), Pick(p, 6), Moved(p, p[:2], hs)
	for i := range 20 {
		Pick(p[i%4:], uint64(i))
		if Succ(l, 6) != id || Pick(p, 6) != picked || !slices.Equal(Moved(p, p[:2], hs), moved) {
			t.Fatal("unlike")
		}
	}
}

// Hashes that moved are told with their places, and no further than they are asked for.
func TestMovesStop(t *testing.T) {
	hs := spread(9)
	odd := func(h uint64) int { return int(h & 1) }
	even := func(h uint64) int { return 1 - int(h&1) }
	for stop := 1; stop <= len(hs); stop++ {
		told := 0
		for i, h := range moves(hs, odd, even) {
			if i != told || h != hs[i] {
				t.Errorf("%d: %d %d", stop, i, h)
			}
			if told++; told == stop {
				break
			}
		}
		if told != stop {
			t.Error(stop, told)
		}
	}
}

// backends is a pool out of bytes, with now and then a number beyond the edges.
func backends(s string) []api.Backend {
	far := []int{0, -1, 65535, 65536, 16, 1<<32 + 1, math.MaxInt, math.MinInt}
	number := func(c byte) int {
		if c >= 248 {
			return far[c-248]
		}
		return int(c) % 24
	}
	var p []api.Backend
	for i := 0; i+1 < len(s); i += 2 {
		p = append(p, b(number(s[i]), number(s[i+1])))
	}
	return p
}

// P1, P2, P5 at rings, pools and hashes that a fuzzer makes up; as a plain test at these seeds.
func FuzzRing(f *testing.F) {
	f.Add("", "", uint64(0))
	f.Add("\x01\x01", "\x02\x01", uint64(1<<63))
	f.Add("\x05\x01\x02\x02\x09\x03\x02\x04", "\x05\x01\x09\x03", uint64(math.MaxUint64))
	f.Add("\xf8\x01\x01\xf8\xfa\x10\xfb\x11\xfd\x02\x01\x02", "\xff\x03\xfe\xff\x01\xfe\x01\x01", uint64(12345))
	f.Fuzz(func(t *testing.T, s, r string, h uint64) {
		// The bytes as points in no order, and in order.
		var l []api.Point
		for i := range len(s) {
			l = append(l, pt(uint64(s[i])*0x0101010101010101, i))
		}
		if id := Succ(l, h); id < 0 != (len(l) == 0) || id >= len(l) {
			t.Fatalf("Succ %v %d: %d", l, h, id)
		}
		slices.SortFunc(l, func(x, y api.Point) int {
			if points.Less(x, y) {
				return -1
			}
			return 1
		})
		hs := append(around(l), h, h)
		for _, g := range hs {
			if id := Succ(l, g); id != wantSucc(l, g) {
				t.Fatalf("Succ %v %d: %d", l, g, id)
			}
		}
		p, q := backends(s[:min(len(s), 20)]), backends(r[:min(len(r), 20)])
		if id := Pick(p, h); id != wantPick(p, h) {
			t.Fatalf("Pick %v %d: %d", p, h, id)
		}
		if moved := Moved(p, q, hs); !slices.Equal(moved, wantMoved(p, q, hs)) || !slices.Equal(moved, Moved(q, p, hs)) {
			t.Fatalf("Moved %v %v %v: %v", p, q, hs, moved)
		}
		k := points.Of(p)
		for _, x := range p {
			// The Id -1 is told like none: without it, hashes that went to it may be told the same.
			went := allIn(hs, func(g uint64) bool { return wantSucc(k, g) == x.Id })
			if moved := Moved(p, without(p, x.Id), hs); x.Id != -1 && !slices.Equal(moved, went) {
				t.Fatalf("%v without %d: %v, not %v", p, x.Id, moved, went)
			}
		}
	})
}
