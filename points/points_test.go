package points

import (
	library "hash/fnv"
	"math"
	"slices"
	"testing"

	"gangplank/api"
	"gangplank/fnv"
)

// b is a backend.
func b(id, weight int) api.Backend { return api.Backend{Id: id, Weight: weight} }

// pool is a list of backends.
func pool(bs ...api.Backend) []api.Backend { return bs }

// pt is a point.
func pt(hash uint64, id int) api.Point { return api.Point{Hash: hash, Id: id} }

// put is a list of points with another one at a place.
func put(l []api.Point, at int, x api.Point) []api.Point {
	k := slices.Clone(l)
	k[at] = x
	return k
}

// alike tells whether points are the same, one by one, whichever way the program tells it.
func alike(l, k []api.Point) bool {
	if len(l) != len(k) {
		return false
	}
	for i := range l {
		if l[i].Hash != k[i].Hash || l[i].Id != k[i].Id {
			return false
		}
	}
	return true
}

// wantHash is Hash by the chapter's own sentence, with the library's FNV-1a.
func wantHash(id, n int) uint64 {
	w := library.New64a()
	w.Write([]byte{byte(id >> 24), byte(id >> 16), byte(id >> 8), byte(id), byte(n >> 8), byte(n), 0, 0, 0, 0})
	return w.Sum64()
}

// wantLess is Less by the chapter's own sentence.
func wantLess(x, y api.Point) bool {
	if x.Hash == y.Hash {
		return x.Id < y.Id
	}
	return x.Hash < y.Hash
}

// wantCount is how many points a backend has, by the chapter's own sentence.
func wantCount(weight int) int {
	switch {
	case weight < 1:
		return 0
	case weight > 16:
		return 128
	}
	return 8 * weight
}

// wantOf is Of by the chapter's own sentence: each point is put behind those that are not behind it.
func wantOf(p []api.Backend) []api.Point {
	var l []api.Point
	for _, x := range p {
		for n := 0; n < wantCount(x.Weight); n++ {
			y := pt(wantHash(x.Id, n), x.Id)
			at := len(l)
			for at > 0 && wantLess(y, l[at-1]) {
				at--
			}
			l = slices.Insert(l, at, y)
		}
	}
	return l
}

// only is the points of one Id, in the order in which they stand.
func only(l []api.Point, id int) []api.Point {
	var k []api.Point
	for _, x := range l {
		if x.Id == id {
			k = append(k, x)
		}
	}
	return k
}

// rising fails unless none of the points is Less than the one ahead.
func rising(t *testing.T, l []api.Point) {
	t.Helper()
	for i := 1; i < len(l); i++ {
		if Less(l[i], l[i-1]) || wantLess(l[i], l[i-1]) {
			t.Fatalf("%v at %d stands behind %v", l[i], i, l[i-1])
		}
	}
}

// numbers tells numbers at and beyond the edges of bytes, of an Id and of a Weight.
func numbers() []int {
	ns := []int{math.MinInt, math.MinInt + 1, -1 << 32, 1<<32 - 1, 1 << 32, 1<<32 + 1, 1<<48 + 1, math.MaxInt - 1, math.MaxInt, 0x01020304, 0x0102030405060708}
	for i := range 63 {
		ns = append(ns, 1<<i, -1<<i, 1<<i-1, -1<<i-1)
	}
	for n := -20; n <= 40; n++ {
		ns = append(ns, n)
	}
	return ns
}

// orders is all orders in which a pool may stand.
func orders(p []api.Backend) [][]api.Backend {
	if len(p) == 0 {
		return [][]api.Backend{nil}
	}
	var all [][]api.Backend
	for i := range p {
		rest := slices.Delete(slices.Clone(p), i, i+1)
		for _, q := range orders(rest) {
			all = append(all, append(pool(p[i]), q...))
		}
	}
	return all
}

// P2: the chapter's example.
func TestExamples(t *testing.T) {
	for _, id := range []int{1, 2, 300, 65535} {
		l := Of(pool(b(id, 2)))
		if len(l) != 16 || len(only(l, id)) != 16 {
			t.Errorf("%d: %v", id, l)
		}
	}
}

// P2: bytes written out: ids of no, one and four bytes, below 0 and above 32 bits; the same of n.
func TestHashByHand(t *testing.T) {
	for _, x := range []struct {
		id, n int
		bytes string
	}{
		{0, 0, "\x00\x00\x00\x00\x00\x00"},
		{1, 0, "\x00\x00\x00\x01\x00\x00"},
		{255, 0, "\x00\x00\x00\xff\x00\x00"},
		{256, 0, "\x00\x00\x01\x00\x00\x00"},
		{65535, 127, "\x00\x00\xff\xff\x00\x7f"},
		{65536, 1, "\x00\x01\x00\x00\x00\x01"},
		{0x01020304, 0x0506, "\x01\x02\x03\x04\x05\x06"},
		{1<<31 - 1, 3, "\x7f\xff\xff\xff\x00\x03"},
		{1 << 31, 3, "\x80\x00\x00\x00\x00\x03"},
		{1<<32 - 1, 4, "\xff\xff\xff\xff\x00\x04"},
		{1 << 32, 5, "\x00\x00\x00\x00\x00\x05"},
		{1<<32 + 1, 5, "\x00\x00\x00\x01\x00\x05"},
		{0x0102030405060708, 0, "\x05\x06\x07\x08\x00\x00"},
		{-1, 0, "\xff\xff\xff\xff\x00\x00"},
		{-2, 0, "\xff\xff\xff\xfe\x00\x00"},
		{-65536, 0, "\xff\xff\x00\x00\x00\x00"},
		{-1 << 32, 0, "\x00\x00\x00\x00\x00\x00"},
		{math.MaxInt, 0, "\xff\xff\xff\xff\x00\x00"},
		{math.MinInt, 0, "\x00\x00\x00\x00\x00\x00"},
		{7, 1, "\x00\x00\x00\x07\x00\x01"},
		{7, 255, "\x00\x00\x00\x07\x00\xff"},
		{7, 256, "\x00\x00\x00\x07\x01\x00"},
		{7, 65535, "\x00\x00\x00\x07\xff\xff"},
		{7, 65536, "\x00\x00\x00\x07\x00\x00"},
		{7, 65537, "\x00\x00\x00\x07\x00\x01"},
		{7, 0x01020304, "\x00\x00\x00\x07\x03\x04"},
		{7, -1, "\x00\x00\x00\x07\xff\xff"},
		{7, -2, "\x00\x00\x00\x07\xff\xfe"},
		{7, -256, "\x00\x00\x00\x07\xff\x00"},
		{7, -65536, "\x00\x00\x00\x07\x00\x00"},
		{7, math.MaxInt, "\x00\x00\x00\x07\xff\xff"},
		{7, math.MinInt, "\x00\x00\x00\x07\x00\x00"},
	} {
		if h := Hash(x.id, x.n); h != fnv.Sum(x.bytes+"\x00\x00\x00\x00") {
			t.Errorf("%d %d: %x", x.id, x.n, h)
		}
	}
}

// P2: hashes as numbers, worked out elsewhere.
func TestHashAsNumbers(t *testing.T) {
	for _, x := range []struct {
		id, n int
		want  uint64
	}{
		{0, 0, 0x69d307cc20f6ef8d},
		{1, 0, 0xa4808c41cf231cb2},
		{0, 1, 0x5d2424a1a3a7852a},
		{1, 2, 0x8b22c5ecd48447ec},
		{65535, 127, 0x7de1fcf0422ae94a},
		{0x01020304, 0x0506, 0x6b7b16a44d6059ea},
		{-1, -1, 0x88ca16a6477318df},
		{1 << 31, 255, 0xdbc47229f4b50090},
		{1 << 31, 256, 0xdfcd255adb164dd4},
	} {
		if h := Hash(x.id, x.n); h != x.want {
			t.Errorf("%d %d: %x, not %x", x.id, x.n, h, x.want)
		}
	}
}

// P2: the lowest four bytes of an id and the lowest two of an n are told, and no other bit of them.
func TestHashBits(t *testing.T) {
	for _, id := range []int{0, 1, 65535, 1 << 40, -1, math.MinInt} {
		for _, n := range []int{0, 1, 127, 65535, 1 << 20, -1, math.MaxInt} {
			h := Hash(id, n)
			for bit := range 64 {
				if same := Hash(id^1<<bit, n) == h; same != (bit >= 32) {
					t.Errorf("bit %d of id %d, beside %d: %v", bit, id, n, same)
				}
				if same := Hash(id, n^1<<bit) == h; same != (bit >= 16) {
					t.Errorf("bit %d of n %d, beside %d: %v", bit, n, id, same)
				}
			}
		}
	}
}

// P1, P2: numbers of all sizes, beside one another.
func TestHashAtAllNumbers(t *testing.T) {
	for _, id := range numbers() {
		for _, n := range numbers() {
			if h := Hash(id, n); h != wantHash(id, n) {
				t.Fatalf("%d %d: %x", id, n, h)
			}
		}
	}
}

// P2: an id and an n are not told by one another; all points of all small backends are unlike.
func TestHashesTellApart(t *testing.T) {
	if Hash(1, 2) == Hash(2, 1) || Hash(0, 1) == Hash(1, 0) || Hash(256, 0) == Hash(0, 256) {
		t.Error("changed over")
	}
	seen := map[uint64]bool{}
	for id := range 300 {
		for n := range 128 {
			seen[Hash(id, n)] = true
		}
	}
	if len(seen) != 300*128 {
		t.Error(len(seen))
	}
}

// P2: by Hash first, as numbers without a sign; by Id, as numbers with one, where Hashes are alike.
func TestLess(t *testing.T) {
	for _, x := range []struct {
		a, b api.Point
		want bool
	}{
		{pt(0, 0), pt(0, 0), false},
		{pt(5, 1), pt(5, 1), false},
		{pt(math.MaxUint64, -1), pt(math.MaxUint64, -1), false},
		{pt(5, 1), pt(6, 1), true},
		{pt(6, 1), pt(5, 1), false},
		{pt(5, 9), pt(6, 1), true},
		{pt(6, 1), pt(5, 9), false},
		{pt(1<<63-1, 1), pt(1<<63, 1), true},
		{pt(1<<63, 1), pt(1<<63-1, 1), false},
		{pt(0, 1), pt(1<<63, 1), true},
		{pt(1<<63, 1), pt(0, 1), false},
		{pt(1, 9), pt(math.MaxUint64, 1), true},
		{pt(math.MaxUint64, 1), pt(1, 9), false},
		{pt(1<<63, 1), pt(1<<63+1, 0), true},
		{pt(math.MaxUint64, 0), pt(math.MaxUint64-1, 1), false},
		{pt(1<<32, 0), pt(1, 0), false},
		{pt(1, 0), pt(1<<32, 0), true},
		{pt(5, 1), pt(5, 2), true},
		{pt(5, 2), pt(5, 1), false},
		{pt(5, -1), pt(5, 0), true},
		{pt(5, 0), pt(5, -1), false},
		{pt(5, -2), pt(5, -1), true},
		{pt(5, -1), pt(5, 1), true},
		{pt(5, 1), pt(5, 1<<32), true},
		{pt(5, -1<<32), pt(5, 0), true},
		{pt(5, math.MinInt), pt(5, math.MaxInt), true},
		{pt(5, math.MaxInt), pt(5, math.MinInt), false},
		{pt(1<<63, 1), pt(1<<63, 2), true},
		{pt(1<<63, 2), pt(1<<63, 1), false},
	} {
		if got := Less(x.a, x.b); got != x.want {
			t.Errorf("%v %v: %v", x.a, x.b, got)
		}
	}
}

// P1, P2: of each two points one is Less, or they are alike; at numbers of all sizes.
func TestLessIsAnOrder(t *testing.T) {
	var all []api.Point
	for _, h := range []uint64{0, 1, 255, 1<<32 - 1, 1 << 32, 1<<63 - 1, 1 << 63, 1<<63 + 1, math.MaxUint64 - 1, math.MaxUint64} {
		for _, id := range []int{math.MinInt, -1 << 32, -2, -1, 0, 1, 2, 65535, 1 << 32, math.MaxInt} {
			all = append(all, pt(h, id))
		}
	}
	for i, x := range all {
		for j, y := range all {
			if Less(x, y) != (i < j) || Less(x, y) != wantLess(x, y) {
				t.Errorf("%v %v: %v", x, y, Less(x, y))
			}
		}
	}
}

// P2: how many points a weight has: 8 times it, none below 1, and above 16 as of 16.
func TestOfCounts(t *testing.T) {
	for weight, want := range map[int]int{1: 8, 2: 16, 3: 24, 15: 120, 16: 128, 17: 128, 18: 128, 99: 128, 0: 0, -1: 0, -2: 0, -16: 0} {
		if l := Of(pool(b(5, weight))); len(l) != want || len(only(l, 5)) != want {
			t.Errorf("%d: %d, not %d", weight, len(l), want)
		}
	}
	// Weights whose products go round, and such whose lower bits alone may be.
	for _, weight := range append(numbers(), math.MinInt/8-1, math.MinInt/8+1, math.MaxInt/8+1, 1<<61+1, -1<<61-1, -1<<61+1) {
		// Asked ahead of Of, which would not end with too many.
		if n := count(weight); n != wantCount(weight) {
			t.Fatalf("%d: %d", weight, n)
		}
		if l := Of(pool(b(5, weight))); len(l) != wantCount(weight) || !alike(l, wantOf(pool(b(5, weight)))) {
			t.Errorf("%d: %d", weight, len(l))
		}
	}
}

// P2: the points of one backend, as numbers that were worked out elsewhere.
func TestOfByHand(t *testing.T) {
	want := []api.Point{pt(0x491a703e42c2b90, 7), pt(0x11408a2e617b95f3, 7), pt(0x1def6d58decb0056, 7), pt(0x2a9e50835c1a6ab9, 7), pt(0x374d33add969d51c, 7), pt(0x43fc16d856b93f7f, 7), pt(0x50aafa02d408a9e2, 7), pt(0x5d59dd2d51581445, 7)}
	if l := Of(pool(b(7, 1))); !alike(l, want) {
		t.Error(l)
	}
	if l := Of(pool(b(3, 0), b(7, 1), b(4, -1))); !alike(l, want) {
		t.Error(l)
	}
}

// P2: no backend, one and several, such as may be in no pool among them: which points there are, and their order.
func TestOf(t *testing.T) {
	if len(Of(nil)) != 0 || len(Of(pool())) != 0 || len(Of(pool(b(1, 0), b(2, -1)))) != 0 {
		t.Error("none")
	}
	for _, p := range [][]api.Backend{
		pool(b(1, 1)),
		pool(b(65535, 16)),
		pool(b(1, 1), b(2, 1)),
		pool(b(3, 2), b(1, 1), b(9, 0), b(8, -1)),
		pool(b(9, 16), b(8, 17), b(7, 15), b(6, 3), b(5, 1)),
		pool(b(0, 1), b(-1, 2), b(65536, 3), b(1<<31, 1), b(-1<<31, 1)),
		pool(b(math.MinInt, 2), b(math.MaxInt, 2), b(1<<40, 1), b(-1<<40, 1)),
	} {
		l := Of(p)
		rising(t, l)
		if !alike(l, wantOf(p)) {
			t.Errorf("%v: %v", p, l)
		}
	}
	// The greatest pool that may be.
	var full []api.Backend
	for i := range 32 {
		full = append(full, b(65535-i*2000, 16))
	}
	l := Of(full)
	rising(t, l)
	if len(l) != 4096 || !alike(l, wantOf(full)) {
		t.Error(len(l))
	}
}

// P2: the n of a backend's points are those from 0 on: a greater weight has all that a smaller one has.
func TestOfFromNoughtOn(t *testing.T) {
	for _, id := range []int{1, 77, 65535, -3} {
		want := map[uint64]bool{}
		for weight := 1; weight <= 16; weight++ {
			for n := 8 * (weight - 1); n < 8*weight; n++ {
				want[Hash(id, n)] = true
			}
			l := Of(pool(b(id, weight)))
			if len(l) != len(want) {
				t.Errorf("%d %d: %d", id, weight, len(l))
			}
			for _, x := range l {
				if !want[x.Hash] || x.Id != id {
					t.Errorf("%d %d: %v", id, weight, x)
				}
			}
		}
	}
}

// P2: Ids of which the lowest four bytes are alike have the same Hashes: their points are in order of their Ids.
func TestOfLikeHashes(t *testing.T) {
	p := pool(b(1, 2), b(1<<32+1, 1), b(1-1<<32, 2), b(math.MinInt+1, 1))
	for _, q := range orders(p) {
		l := Of(q)
		rising(t, l)
		if !alike(l, wantOf(p)) {
			t.Fatalf("%v: %v", q, l)
		}
	}
	l := Of(pool(b(5, 1), b(1<<32+5, 1), b(5-1<<32, 1)))
	for i := 0; i < len(l); i += 3 {
		if l[i].Hash != l[i+2].Hash || l[i].Id != 5-1<<32 || l[i+1].Id != 5 || l[i+2].Id != 1<<32+5 {
			t.Errorf("%v", l[i:i+3])
		}
	}
}

// P2: two of one Id have each their points, so the same ones stand more than once.
func TestOfTwice(t *testing.T) {
	one, two := Of(pool(b(4, 1))), Of(pool(b(4, 2)))
	twice := Of(pool(b(4, 1), b(4, 1)))
	if len(twice) != 16 {
		t.Fatal(len(twice))
	}
	for i, x := range one {
		if twice[2*i] != x || twice[2*i+1] != x {
			t.Errorf("%d: %v %v, not %v", i, twice[2*i], twice[2*i+1], x)
		}
	}
	for _, p := range orders(pool(b(4, 1), b(9, 1), b(4, 2), b(4, 0))) {
		l := Of(p)
		rising(t, l)
		if len(l) != 32 || len(only(l, 4)) != 24 || !alike(l, wantOf(p)) {
			t.Errorf("%v: %v", p, l)
		}
		times := map[uint64]int{}
		for _, x := range only(l, 4) {
			times[x.Hash]++
		}
		for n := range 16 {
			want := 1
			if n < 8 {
				want = 2
			}
			if times[Hash(4, n)] != want {
				t.Errorf("%v %d: %d times", p, n, times[Hash(4, n)])
			}
		}
	}
	if Same(twice, two) {
		t.Error("twice is not twice the weight")
	}
}

// P2: a pool's points hang on no order.
func TestOfHangsOnNoOrder(t *testing.T) {
	for _, p := range [][]api.Backend{
		pool(b(1, 1), b(2, 2)),
		pool(b(3, 2), b(1, 1), b(9, 0), b(8, -1), b(65535, 17)),
		pool(b(1, 3), b(1, 1), b(2, 3), b(2, 3), b(-1, 1)),
	} {
		want := Of(p)
		for _, q := range orders(p) {
			if l := Of(q); !Same(l, want) || !alike(l, want) {
				t.Fatalf("%v, %v: %v, not %v", p, q, l, want)
			}
		}
	}
	var wide []api.Backend
	for i := range 32 {
		wide = append(wide, b(i*997%65535+1, i%16+1))
	}
	want := Of(wide)
	for i := range wide {
		turned := slices.Concat(wide[i:], wide[:i])
		if !alike(Of(turned), want) {
			t.Error(i)
		}
		slices.Reverse(turned)
		if !alike(Of(turned), want) {
			t.Error(i, "turned round")
		}
	}
}

// P2, P5: a backend's points are the same in every pool: those who come and go move none of them.
func TestOfIsTheSameInEveryPool(t *testing.T) {
	others := pool(b(2, 16), b(3, 1), b(65535, 5), b(0, 2), b(-7, 20), b(1<<32+9, 3), b(8, 0))
	for _, x := range pool(b(1, 1), b(9, 4), b(65534, 16), b(9, 17), b(-9, 2), b(9, 0), b(9, -1)) {
		want := Of(pool(x))
		for i := range len(others) + 1 {
			for j := range i + 1 {
				p := slices.Insert(slices.Clone(others[:i]), j, x)
				if l := only(Of(p), x.Id); !alike(l, want) {
					t.Errorf("%v in %v: %v, not %v", x, p, l, want)
				}
			}
		}
	}
	// Without a backend just its own points are gone.
	p := pool(b(2, 16), b(3, 1), b(9, 4), b(65535, 5))
	for i, x := range p {
		left := slices.DeleteFunc(Of(p), func(y api.Point) bool { return y.Id == x.Id })
		if !alike(left, Of(slices.Delete(slices.Clone(p), i, i+1))) {
			t.Errorf("without %v", x)
		}
	}
}

// P2: as many, and alike one by one.
func TestSame(t *testing.T) {
	none := []api.Point{}
	if !Same(nil, nil) || !Same(nil, none) || !Same(none, nil) || !Same(none, none) {
		t.Error("none")
	}
	for _, n := range []int{1, 2, 3, 8, 16, 33} {
		var l []api.Point
		for i := range n {
			l = append(l, pt(uint64(i)<<58+3, i+1))
		}
		if !Same(l, slices.Clone(l)) || !Same(l, l) {
			t.Error(n)
		}
		unlike := func(k []api.Point) {
			t.Helper()
			if Same(l, k) || Same(k, l) {
				t.Errorf("%v %v", l, k)
			}
		}
		unlike(nil)
		unlike(l[:n-1])
		unlike(l[1:])
		unlike(append(slices.Clone(l), api.Point{}))
		unlike(append(slices.Clone(l), l[n-1]))
		for i, x := range l {
			unlike(put(l, i, pt(x.Hash+1, x.Id)))
			unlike(put(l, i, pt(x.Hash^1<<32, x.Id)))
			unlike(put(l, i, pt(x.Hash^1<<63, x.Id)))
			unlike(put(l, i, pt(x.Hash, x.Id+1)))
			unlike(put(l, i, pt(x.Hash, -x.Id)))
			unlike(put(l, i, pt(x.Hash, x.Id+1<<32)))
			for j, y := range l[:i] {
				unlike(put(put(l, i, y), j, x))
			}
		}
	}
	// Hash and Id are not told by one another.
	if Same([]api.Point{pt(1, 2)}, []api.Point{pt(2, 1)}) || Same([]api.Point{pt(1, 1), pt(2, 2)}, []api.Point{pt(1, 2), pt(2, 1)}) {
		t.Error("changed over")
	}
	// Any lists are held against each other, in order or not.
	if l := []api.Point{pt(9, 1), pt(5, -1), pt(9, 1)}; !Same(l, slices.Clone(l)) {
		t.Error(l)
	}
}

// P1: lists that are longer than any pool.
func TestLong(t *testing.T) {
	var p []api.Backend
	for i := range 3000 {
		p = append(p, b(i-1000, i%20-1))
	}
	want := 0
	for _, x := range p {
		want += wantCount(x.Weight)
	}
	l := Of(p)
	rising(t, l)
	if len(l) != want || !Same(l, slices.Clone(l)) || Same(l, l[1:]) {
		t.Error(len(l), want)
	}
	if l := Of(make([]api.Backend, 1<<20)); len(l) != 0 {
		t.Error(len(l))
	}
}

// spare is a list of its own with backends behind it that are none of it; whole has them, too.
func spare() (p, whole []api.Backend) {
	whole = pool(b(5, 1), b(2, 3), b(9, 17), b(2, 1), b(77, 7), b(78, 8))
	return whole[:4], whole
}

// R3: a list that is handed in is changed by no call, nor is what stands behind it.
func TestArgumentsStay(t *testing.T) {
	p, whole := spare()
	_, was := spare()
	l := Of(p)
	if !slices.Equal(whole, was) {
		t.Error(whole)
	}
	// Neither list is in order: none is put in order.
	slices.Reverse(l)
	k := slices.Clone(l)
	old := slices.Clone(l)
	Same(l, k)
	Same(l[:9], k)
	Same(l, k[1:])
	Less(l[0], k[1])
	if !alike(l, old) || !alike(k, old) {
		t.Error("Same")
	}
}

// R3: an answer that was told is changed by no later call.
func TestAnswersStay(t *testing.T) {
	p, _ := spare()
	told := Of(p)
	was := slices.Clone(told)
	Of(p)
	Of(p[1:])
	Of(pool(b(1, 16), b(2, 16)))
	Of(nil)
	Same(told, Of(p))
	Less(told[1], told[0])
	Hash(told[0].Id, 0)
	if !alike(told, was) {
		t.Error(told)
	}
}

// An answer is its owner's: what is done to it is seen in no later one, nor in the list that it was made of.
func TestAnswersAreNew(t *testing.T) {
	p, whole := spare()
	_, was := spare()
	told := Of(p)
	want := slices.Clone(told)
	clear(told[:cap(told)])
	if !slices.Equal(whole, was) || !alike(Of(p), want) {
		t.Error("what was told is kept")
	}
	again := Of(p)
	clear(whole)
	if !alike(again, want) {
		t.Error("what was handed in is kept")
	}
}

// R4: the same calls tell the same.
func TestSameAgain(t *testing.T) {
	p, _ := spare()
	want := Of(p)
	for range 20 {
		if !alike(Of(p), want) || Hash(5, 3) != wantHash(5, 3) {
			t.Fatal("unlike")
		}
	}
}

// Places are told no further than they are asked for.
func TestPlacesStop(t *testing.T) {
	for stop := 1; stop <= 24; stop++ {
		told := 0
		for range places(pool(b(1, 1), b(2, 0), b(3, 2))) {
			if told++; told == stop {
				break
			}
		}
		if told != stop {
			t.Error(stop, told)
		}
	}
}

// backends is a pool out of bytes, with now and then a number beyond the edges.
func backends(s string) []api.Backend {
	far := []int{0, -1, 65535, 65536, 16, 1<<32 + 1, math.MaxInt, math.MinInt}
	number := func(c byte) int {
		if c >= 248 {
			return far[c-248]
		}
		return int(c) % 24
	}
	var p []api.Backend
	for i := 0; i+1 < len(s); i += 2 {
		p = append(p, b(number(s[i]), number(s[i+1])))
	}
	return p
}

// P1, P2 at pools that a fuzzer makes up; as a plain test at these seeds.
func FuzzPoints(f *testing.F) {
	f.Add("", 0, 0)
	f.Add("\x01\x01", 1, 2)
	f.Add("\x05\x01\x02\x02\x09\x03\x02\x04", -1, 65536)
	f.Add("\xf8\x01\x01\xf8\xfa\x10\xfb\x11\xfd\x02\x01\x02", 1<<40, -1)
	f.Add("\xff\x03\xfe\xff\x01\xfe\x01\x01", math.MinInt, math.MaxInt)
	f.Fuzz(func(t *testing.T, s string, id, n int) {
		if h := Hash(id, n); h != wantHash(id, n) {
			t.Fatalf("Hash %d %d: %x", id, n, h)
		}
		// The sentences are slow at long lists: TestLong has those.
		p := backends(s[:min(len(s), 20)])
		l := Of(p)
		rising(t, l)
		if !alike(l, wantOf(p)) || !Same(l, wantOf(p)) {
			t.Fatalf("Of %v: %v", p, l)
		}
		q := slices.Clone(p)
		slices.Reverse(q)
		if !Same(Of(q), l) {
			t.Fatalf("Of %v hangs on its order", p)
		}
		for i := range l {
			if Same(l, put(l, i, pt(l[i].Hash, l[i].Id^1<<(n&63)))) || Same(l, put(l, i, pt(l[i].Hash^1<<(n&63), l[i].Id))) {
				t.Fatalf("Same %v at %d", l, i)
			}
		}
		more := append(slices.Clone(p), b(id, n))
		if slices.IndexFunc(p, func(x api.Backend) bool { return x.Id == id }) < 0 && !alike(only(Of(more), id), Of(pool(b(id, n)))) {
			t.Fatalf("%d %d in %v", id, n, p)
		}
	})
}
