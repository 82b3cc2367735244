package pool

import (
	"math"
	"slices"
	"strconv"
	"testing"

	"gangplank/api"
)

// b is a backend.
func b(id, weight int) api.Backend { return api.Backend{Id: id, Weight: weight} }

// list is a pool.
func list(bs ...api.Backend) []api.Backend { return bs }

// many is n backends with the Ids from 1 on.
func many(n int) []api.Backend {
	var p []api.Backend
	for i := range n {
		p = append(p, b(i+1, i%16+1))
	}
	return p
}

// put is a pool with another backend at a place.
func put(p []api.Backend, at int, x api.Backend) []api.Backend {
	q := slices.Clone(p)
	q[at] = x
	return q
}

// alike tells whether pools have the same backends, one by one, whichever way the program tells it.
func alike(p, q []api.Backend) bool {
	if len(p) != len(q) {
		return false
	}
	for i := range p {
		if p[i].Id != q[i].Id || p[i].Weight != q[i].Weight {
			return false
		}
	}
	return true
}

// small is all pools of up to n backends of the Ids 1 to 3 and the Weights 1 and 2.
func small(n int) [][]api.Backend {
	all := [][]api.Backend{nil}
	last := all
	for range n {
		var next [][]api.Backend
		for _, p := range last {
			for x := range 6 {
				next = append(next, append(slices.Clone(p), b(x/2+1, x%2+1)))
			}
		}
		all, last = append(all, next...), next
	}
	return all
}

// numbers tells numbers at and beyond the edges of an Id and of a Weight.
func numbers() []int {
	ns := []int{math.MinInt, math.MinInt + 1, -1 << 32, 1<<16 - 1, 1 << 16, 1<<16 + 1, 1 << 32, 1<<32 + 1, 1<<32 + 16, 1<<48 + 1, math.MaxInt - 1, math.MaxInt}
	for n := -20; n <= 40; n++ {
		ns = append(ns, n)
	}
	return ns
}

// wantFind is Find by the chapter's own sentence.
func wantFind(p []api.Backend, id int) int {
	at := -1
	for i := len(p) - 1; i >= 0; i-- {
		if p[i].Id == id {
			at = i
		}
	}
	return at
}

// wantCheck is Check by the chapter's own sentence.
func wantCheck(p []api.Backend) api.Errno {
	bad := len(p) > 32
	for i, x := range p {
		bad = bad || x.Id < 1 || x.Id > 65535 || x.Weight < 1 || x.Weight > 16
		bad = bad || wantFind(p, x.Id) != i
	}
	if bad {
		return 10
	}
	return 0
}

// wantSorted is Sorted by the chapter's own sentence: each is behind all that are ahead of it in order.
func wantSorted(p []api.Backend) []api.Backend {
	q := make([]api.Backend, len(p))
	for i, x := range p {
		at := 0
		for j, y := range p {
			if y.Id < x.Id || y.Id == x.Id && j < i {
				at++
			}
		}
		q[at] = x
	}
	return q
}

// wantWith is With by the chapter's own sentence.
func wantWith(p []api.Backend, x api.Backend) []api.Backend {
	at := wantFind(p, x.Id)
	if at < 0 {
		return append(slices.Clone(p), x)
	}
	return put(p, at, x)
}

// wantWithout is Without by the chapter's own sentence.
func wantWithout(p []api.Backend, id int) []api.Backend {
	var q []api.Backend
	for _, x := range p {
		if x.Id != id {
			q = append(q, x)
		}
	}
	return q
}

// wantGone is Gone by the chapter's own sentence: the least one that is above all that were told is next.
func wantGone(p, q []api.Backend) []int {
	var told []int
	for {
		next, more := 0, false
		for _, x := range p {
			above := len(told) == 0 || x.Id > told[len(told)-1]
			if above && wantFind(q, x.Id) < 0 && (!more || x.Id < next) {
				next, more = x.Id, true
			}
		}
		if !more {
			return told
		}
		told = append(told, next)
	}
}

// one fails unless each call of one pool tells of it what the chapter says; p is not changed.
func one(t *testing.T, p []api.Backend, id, weight int) {
	t.Helper()
	was := slices.Clone(p)
	if e := Check(p); e != wantCheck(p) {
		t.Fatalf("Check %v: %v", p, e)
	}
	if at := Find(p, id); at != wantFind(p, id) {
		t.Fatalf("Find %v %v: %v", p, id, at)
	}
	if q := Sorted(p); !alike(q, wantSorted(p)) {
		t.Fatalf("Sorted %v: %v", p, q)
	}
	if q := With(p, b(id, weight)); !alike(q, wantWith(p, b(id, weight))) {
		t.Fatalf("With %v %v %v: %v", p, id, weight, q)
	}
	if q := Without(p, id); !alike(q, wantWithout(p, id)) {
		t.Fatalf("Without %v %v: %v", p, id, q)
	}
	if !alike(p, was) {
		t.Fatalf("%v is %v", was, p)
	}
	holds(t, p, id, weight)
}

// holds fails unless what is put in is found, what is taken out is not, and a pool that may be may be sorted.
func holds(t *testing.T, p []api.Backend, id, weight int) {
	t.Helper()
	in := With(p, b(id, weight))
	at := Find(in, id)
	if at < 0 || in[at] != b(id, weight) {
		t.Fatalf("%v %v %v: not found in %v", p, id, weight, in)
	}
	if out := Without(in, id); Find(out, id) != -1 || Find(Without(p, id), id) != -1 {
		t.Fatalf("%v %v: found", p, id)
	}
	sorted := Sorted(p)
	if Check(sorted) != Check(p) || !Same(Sorted(sorted), sorted) {
		t.Fatalf("%v: %v", p, sorted)
	}
	if len(Gone(p, sorted)) != 0 || len(Gone(sorted, p)) != 0 {
		t.Fatalf("%v: %v has others", p, sorted)
	}
}

// two fails unless each call of two pools tells of them what the chapter says; neither is changed.
func two(t *testing.T, p, q []api.Backend) {
	t.Helper()
	wasP, wasQ := slices.Clone(p), slices.Clone(q)
	if Same(p, q) != alike(p, q) {
		t.Fatalf("Same %v %v: %v", p, q, Same(p, q))
	}
	if got := Gone(p, q); !slices.Equal(got, wantGone(p, q)) {
		t.Fatalf("Gone %v %v: %v", p, q, got)
	}
	if !alike(p, wasP) || !alike(q, wasQ) {
		t.Fatalf("%v %v are %v %v", wasP, wasQ, p, q)
	}
}

// P2: the chapter's examples.
func TestExamples(t *testing.T) {
	if e := Check(nil); e != api.OK {
		t.Error(e)
	}
	if e := Check(list()); e != api.OK {
		t.Error(e)
	}
	if e := Check(list(b(1, 1), b(1, 1))); e != api.ErrBadPool {
		t.Error(e)
	}
}

// Errors: how many backends there may be: none up to 32.
func TestCheckSize(t *testing.T) {
	for n := range 100 {
		want := api.OK
		if n > 32 {
			want = api.ErrBadPool
		}
		if e := Check(many(n)); e != want {
			t.Error(n, e)
		}
	}
	// What is cut off is not counted.
	if e := Check(many(33)[:32]); e != api.OK {
		t.Error(e)
	}
	for _, n := range []int{256, 257, 65535, 65536, 65537, 1 << 20} {
		if e := Check(many(n)); e != api.ErrBadPool {
			t.Error(n, e)
		}
	}
}

// Errors: an Id is from 1 to 65535, a Weight from 1 to 16, wherever the backend stands.
func TestCheckNumbers(t *testing.T) {
	check := func(x api.Backend, may bool) {
		t.Helper()
		want := api.OK
		if !may {
			want = api.ErrBadPool
		}
		for _, n := range []int{1, 2, 3, 31, 32} {
			// The others' Ids are none of those that are asked about.
			p := many(n)
			for i := range p {
				p[i].Id += 1000
			}
			for at := range p {
				if e := Check(put(p, at, x)); e != want {
					t.Errorf("%v at %d of %d: %v", x, at, n, e)
				}
			}
		}
	}
	for _, n := range []int{1, 2, 255, 256, 257, 32767, 32768, 65534, 65535} {
		check(b(n, 1), true)
		check(b(n, 16), true)
	}
	for _, n := range []int{0, -1, -2, -65535, -65536, 65536, 65537, 131071, 1 << 31, 1 << 32, 1<<32 + 1, math.MaxInt, math.MinInt, math.MinInt + 1} {
		check(b(n, 1), false)
		check(b(n, 16), false)
	}
	for n := 1; n <= 16; n++ {
		check(b(1, n), true)
		check(b(65535, n), true)
	}
	for _, n := range []int{0, -1, -2, -16, 17, 18, 32, 256, 257, 65536, 65537, 1 << 32, 1<<32 + 1, math.MaxInt, math.MinInt, math.MinInt + 1} {
		check(b(1, n), false)
		check(b(65535, n), false)
	}
	check(b(0, 0), false)
	check(b(65536, 17), false)
}

// Errors: two of one Id, at any two places, of like and of unlike Weight; two of one Weight may be.
func TestCheckTwice(t *testing.T) {
	for _, n := range []int{2, 3, 5, 32} {
		p := many(n)
		for i := range p {
			for j := range p {
				if i == j {
					continue
				}
				for _, weight := range []int{p[i].Weight, p[i].Weight%16 + 1} {
					if e := Check(put(p, j, b(p[i].Id, weight))); e != api.ErrBadPool {
						t.Errorf("%d and %d of %d: %v", i, j, n, e)
					}
				}
				if e := Check(put(p, j, b(p[j].Id, p[i].Weight))); e != api.OK {
					t.Errorf("%d and %d of %d, of one Weight: %v", i, j, n, e)
				}
			}
		}
	}
	// Ids of which only the lower bits, or only the sizes, are alike.
	if e := Check(list(b(1, 1), b(257, 1), b(513, 1), b(65281, 1))); e != api.OK {
		t.Error(e)
	}
}

// P2: the first of an Id that stands once, more than once, and not at all.
func TestFind(t *testing.T) {
	p := list(b(5, 1), b(2, 2), b(9, 3), b(2, 4), b(9, 3), b(-7, 0), b(0, 5), b(math.MinInt, 1))
	places := map[int]int{5: 0, 2: 1, 9: 2, -7: 5, 0: 6, math.MinInt: 7}
	for _, id := range append(numbers(), 5, 2, 9, -7) {
		want, there := places[id]
		if !there {
			want = -1
		}
		if at := Find(p, id); at != want {
			t.Errorf("%d: %d, not %d", id, at, want)
		}
	}
	// An Id is not a Weight.
	if at := Find(list(b(1, 2), b(3, 4)), 2); at != -1 {
		t.Error(at)
	}
	for _, id := range numbers() {
		if Find(nil, id) != -1 || Find(list(), id) != -1 {
			t.Error(id)
		}
	}
	// A pool that is cut off has no more what stands behind.
	if at := Find(p[:2], 9); at != -1 {
		t.Error(at)
	}
	wide := many(5000)
	for _, id := range []int{1, 32, 33, 4999, 5000} {
		if at := Find(wide, id); at != id-1 {
			t.Error(id, at)
		}
	}
}

// P2: what rises, what falls, what is alike, and several of one Id, in the order in which they stand.
func TestSorted(t *testing.T) {
	for _, x := range []struct{ p, want []api.Backend }{
		{nil, nil},
		{list(b(7, 1)), list(b(7, 1))},
		{list(b(1, 9), b(2, 8), b(3, 7)), list(b(1, 9), b(2, 8), b(3, 7))},
		{list(b(3, 1), b(2, 2), b(1, 3)), list(b(1, 3), b(2, 2), b(3, 1))},
		{list(b(4, 9), b(4, 1), b(4, 5)), list(b(4, 9), b(4, 1), b(4, 5))},
		{list(b(5, 1), b(2, 9), b(9, 3), b(2, 4), b(5, 0), b(2, 7)), list(b(2, 9), b(2, 4), b(2, 7), b(5, 1), b(5, 0), b(9, 3))},
		{list(b(1, 1), b(0, 1), b(-1, 1)), list(b(-1, 1), b(0, 1), b(1, 1))},
		// Numbers whose differences go round.
		{list(b(math.MaxInt, 1), b(math.MinInt, 2), b(0, 3), b(-2, 4)), list(b(math.MinInt, 2), b(-2, 4), b(0, 3), b(math.MaxInt, 1))},
		{list(b(1<<32, 1), b(1, 2), b(-1<<32, 3)), list(b(-1<<32, 3), b(1, 2), b(1<<32, 1))},
	} {
		if got := Sorted(x.p); !alike(got, x.want) {
			t.Errorf("%v: %v, not %v", x.p, got, x.want)
		}
	}
	// So many of one Id that an order which does not keep them is seen.
	for _, n := range []int{12, 13, 20, 33, 100, 500} {
		var p []api.Backend
		for i := range n {
			p = append(p, b(i*7%4, i))
		}
		if got := Sorted(p); !alike(got, wantSorted(p)) {
			t.Errorf("%d: %v", n, got)
		}
	}
}

// P2: in the place of the first of its Id, behind all if there is none.
func TestWith(t *testing.T) {
	p := list(b(5, 1), b(2, 2), b(9, 3), b(2, 4))
	for _, x := range []struct {
		p    []api.Backend
		b    api.Backend
		want []api.Backend
	}{
		{nil, b(1, 2), list(b(1, 2))},
		{nil, b(-1, -2), list(b(-1, -2))},
		{nil, b(0, 0), list(b(0, 0))},
		{p, b(5, 7), list(b(5, 7), b(2, 2), b(9, 3), b(2, 4))},
		{p, b(9, 7), list(b(5, 1), b(2, 2), b(9, 7), b(2, 4))},
		{p, b(2, 7), list(b(5, 1), b(2, 7), b(9, 3), b(2, 4))},
		{p, b(2, 2), p},
		{p, b(2, 4), list(b(5, 1), b(2, 4), b(9, 3), b(2, 4))},
		{p, b(1, 7), list(b(5, 1), b(2, 2), b(9, 3), b(2, 4), b(1, 7))},
		{p, b(0, 0), list(b(5, 1), b(2, 2), b(9, 3), b(2, 4), b(0, 0))},
		{p, b(math.MinInt, math.MaxInt), list(b(5, 1), b(2, 2), b(9, 3), b(2, 4), b(math.MinInt, math.MaxInt))},
	} {
		if got := With(x.p, x.b); !alike(got, x.want) {
			t.Errorf("%v %v: %v, not %v", x.p, x.b, got, x.want)
		}
	}
	// No pool is too great to be put into: only Check tells that it may not be.
	full := many(32)
	over := With(full, b(33, 1))
	if !alike(over, append(slices.Clone(full), b(33, 1))) || Check(over) != api.ErrBadPool {
		t.Error(over)
	}
	if same := With(full, b(32, 3)); !alike(same, put(full, 31, b(32, 3))) || Check(same) != api.OK {
		t.Error(same)
	}
}

// P2: none of the Id is left, and all else is, as it stood.
func TestWithout(t *testing.T) {
	p := list(b(5, 1), b(2, 2), b(9, 3), b(2, 4))
	for _, x := range []struct {
		p    []api.Backend
		id   int
		want []api.Backend
	}{
		{nil, 1, nil},
		{nil, 0, nil},
		{p, 5, list(b(2, 2), b(9, 3), b(2, 4))},
		{p, 9, list(b(5, 1), b(2, 2), b(2, 4))},
		{p, 2, list(b(5, 1), b(9, 3))},
		{p, 3, p},
		{p, 0, p},
		{p, -2, p},
		{p, 1<<32 + 2, p},
		{list(b(1, 1)), 1, nil},
		{list(b(1, 1), b(1, 2), b(1, 1)), 1, nil},
		{list(b(0, 1), b(0, 2), b(3, 0)), 0, list(b(3, 0))},
		{list(b(1, 2), b(2, 1)), 1, list(b(2, 1))},
		{list(b(math.MinInt, 1), b(4, 1), b(4, 1), b(math.MinInt, 2), b(4, 2)), math.MinInt, list(b(4, 1), b(4, 1), b(4, 2))},
	} {
		if got := Without(x.p, x.id); !alike(got, x.want) {
			t.Errorf("%v %v: %v, not %v", x.p, x.id, got, x.want)
		}
	}
	// Each may be taken out of a pool, till there is none.
	left := many(32)
	for id := 1; id <= 32; id++ {
		left = Without(left, id)
		if len(left) != 32-id || !alike(left, many(32)[id:]) {
			t.Fatal(id, left)
		}
	}
}

// P2: as many, and alike one by one.
func TestSame(t *testing.T) {
	if !Same(nil, nil) || !Same(nil, list()) || !Same(list(), nil) || !Same(list(), list()) {
		t.Error("none")
	}
	for _, n := range []int{1, 2, 3, 32, 33} {
		p := many(n)
		if !Same(p, slices.Clone(p)) || !Same(p, p) {
			t.Error(n)
		}
		unlike := func(q []api.Backend) {
			t.Helper()
			if Same(p, q) || Same(q, p) {
				t.Errorf("%v %v", p, q)
			}
		}
		unlike(nil)
		unlike(p[:n-1])
		unlike(p[1:])
		unlike(many(n + 1))
		unlike(append(slices.Clone(p), api.Backend{}))
		for i, x := range p {
			unlike(put(p, i, b(x.Id+100, x.Weight)))
			unlike(put(p, i, b(x.Id+1<<32, x.Weight)))
			unlike(put(p, i, b(x.Id, x.Weight+1)))
			unlike(put(p, i, b(x.Id, x.Weight+1<<32)))
			unlike(put(p, i, b(-x.Id, x.Weight)))
			for j, y := range p[:i] {
				unlike(put(put(p, i, y), j, x))
			}
		}
	}
	// Id and Weight are not told by one another.
	if Same(list(b(1, 2)), list(b(2, 1))) || Same(list(b(1, 1), b(2, 2)), list(b(1, 2), b(2, 1))) {
		t.Error("changed over")
	}
}

// P2: the Ids of the first that are none of the second, rising, each once.
func TestGone(t *testing.T) {
	p := list(b(9, 3), b(2, 2), b(5, 1), b(2, 4), b(9, 3))
	for _, x := range []struct {
		p, q []api.Backend
		want []int
	}{
		{nil, nil, nil},
		{nil, p, nil},
		{p, p, nil},
		{p, nil, []int{2, 5, 9}},
		{p, list(), []int{2, 5, 9}},
		{p, list(b(9, 9)), []int{2, 5}},
		{p, list(b(2, 9)), []int{5, 9}},
		{p, list(b(2, 9), b(2, 8), b(2, 7)), []int{5, 9}},
		{p, list(b(5, 0), b(2, 0)), []int{9}},
		{p, list(b(9, 1), b(5, 1), b(2, 1)), nil},
		{p, list(b(1, 2), b(3, 9), b(0, 5)), []int{2, 5, 9}},
		{p, list(b(1<<32+2, 1), b(-2, 1)), []int{2, 5, 9}},
		{list(b(9, 9)), p, nil},
		{list(b(8, 9), b(8, 1), b(8, 9)), p, []int{8}},
		{list(b(1, 2)), list(b(2, 1)), []int{1}},
		{list(b(0, 1), b(-1, 1), b(-1, 2), b(1, 1)), nil, []int{-1, 0, 1}},
		{list(b(math.MaxInt, 1), b(math.MinInt, 1), b(0, 1), b(-2, 1)), list(b(0, 2)), []int{math.MinInt, -2, math.MaxInt}},
	} {
		if got := Gone(x.p, x.q); !slices.Equal(got, x.want) {
			t.Errorf("%v %v: %v, not %v", x.p, x.q, got, x.want)
		}
	}
	// So many that an order which hangs on chance is seen; R4: and so is one that changes.
	var falls []api.Backend
	var want []int
	for id := range 200 {
		falls = append(falls, b(200-id, 1), b(id+1, 2))
		if id+1 > 32 {
			want = append(want, id+1)
		}
	}
	for range 20 {
		if got := Gone(falls, many(32)); !slices.Equal(got, want) {
			t.Fatal(got)
		}
	}
}

// P2: all small pools, with each Id that they have and one that they have not.
func TestSmall(t *testing.T) {
	for _, p := range small(4) {
		for id := 1; id <= 4; id++ {
			one(t, p, id, 1)
			one(t, p, id, 3)
		}
	}
	pools := small(3)
	for _, p := range pools {
		for _, q := range pools {
			two(t, p, q)
		}
	}
}

// P1, P2: numbers of all kinds, beside one another.
func TestAllNumbers(t *testing.T) {
	for _, n := range numbers() {
		for _, m := range numbers() {
			for _, p := range [][]api.Backend{nil, list(b(n, m)), list(b(n, 1), b(m, 1)), list(b(m, n), b(1, 1), b(n, m), b(m, 16))} {
				one(t, p, n, m)
				one(t, p, m, n)
				two(t, p, list(b(m, n)))
				two(t, list(b(n, n), b(m, m)), p)
			}
		}
	}
}

// P1: lists that are longer than any pool.
func TestLong(t *testing.T) {
	n := 1 << 18
	p := make([]api.Backend, n)
	for i := range p {
		p[i] = b(n-i, i)
	}
	if Check(p) != api.ErrBadPool || Find(p, 1) != n-1 || Find(p, 0) != -1 {
		t.Error("checked and found")
	}
	s := Sorted(p)
	for i := range s {
		if s[i] != b(i+1, n-1-i) {
			t.Fatal(i, s[i])
		}
	}
	if got := With(p, b(1, 77)); len(got) != n || got[n-1] != b(1, 77) || p[n-1] == b(1, 77) {
		t.Error("with")
	}
	if got := Without(p, n); !Same(got, p[1:]) || Same(got, p) {
		t.Error("without")
	}
	if got := Gone(p, p[:n-2]); !slices.Equal(got, []int{1, 2}) {
		t.Error(got)
	}
}

// spare is a list of its own with backends behind it that are none of it; whole has them, too.
func spare() (p, whole []api.Backend) {
	whole = list(b(5, 1), b(2, 2), b(9, 3), b(2, 4), b(77, 7), b(78, 8), b(79, 9))
	return whole[:4], whole
}

// calls is each call that tells a list of backends, at arguments that ask for all of its ways.
func calls() map[string]func(p []api.Backend) []api.Backend {
	all := map[string]func(p []api.Backend) []api.Backend{"Sorted": Sorted}
	for _, id := range []int{5, 2, 9, 3} {
		all["With "+strconv.Itoa(id)] = func(p []api.Backend) []api.Backend { return With(p, b(id, 11)) }
		all["Without "+strconv.Itoa(id)] = func(p []api.Backend) []api.Backend { return Without(p, id) }
	}
	return all
}

// R3: a list that is handed in is changed by no call, nor is what stands behind it.
func TestArgumentsStay(t *testing.T) {
	for name, call := range calls() {
		p, whole := spare()
		_, was := spare()
		call(p)
		if !alike(whole, was) {
			t.Errorf("%s: %v", name, whole)
		}
	}
	p, whole := spare()
	q, wholeQ := spare()
	_, was := spare()
	Check(p)
	Find(p, 2)
	Same(p, q)
	Same(p, q[:3])
	Gone(p, q[:1])
	Gone(p[:1], q)
	if !alike(whole, was) || !alike(wholeQ, was) {
		t.Errorf("%v %v", whole, wholeQ)
	}
}

// R3: an answer that was told is changed by no later call, be it one of the same list or of the answer itself.
func TestAnswersStay(t *testing.T) {
	for first, call := range calls() {
		p, _ := spare()
		told := call(p)
		was := slices.Clone(told)
		for later, again := range calls() {
			again(p)
			next := again(told)
			again(next)
			if !alike(told, was) {
				t.Fatalf("%s, %s: %v, not %v", first, later, told, was)
			}
		}
		Check(told)
		Find(told, 2)
		Gone(told, p)
		Same(told, p)
		if !alike(told, was) {
			t.Errorf("%s: %v, not %v", first, told, was)
		}
	}
	// Two that are made of one answer: neither is seen in the other.
	full := With(With(nil, b(1, 1)), b(2, 1))
	x, y := With(full, b(3, 1)), With(full, b(4, 1))
	if !alike(x, list(b(1, 1), b(2, 1), b(3, 1))) || !alike(y, list(b(1, 1), b(2, 1), b(4, 1))) {
		t.Error(x, y)
	}
	p, _ := spare()
	gone := Gone(p, nil)
	Gone(p, list(b(2, 1)))
	Gone(list(b(1, 1), b(3, 1), b(4, 1)), nil)
	if !slices.Equal(gone, []int{2, 5, 9}) {
		t.Error(gone)
	}
}

// An answer shares nothing with an argument: what its owner does to one is not seen in the other.
func TestAnswersAreNew(t *testing.T) {
	for name, call := range calls() {
		p, whole := spare()
		_, was := spare()
		told := call(p)
		clear(told[:cap(told)])
		if !alike(whole, was) {
			t.Errorf("%s: %v", name, whole)
		}
		told = call(p)
		old := slices.Clone(told)
		clear(whole)
		if !alike(told, old) {
			t.Errorf("%s: %v, not %v", name, told, old)
		}
	}
}

// R4: the same calls tell the same.
func TestSameAgain(t *testing.T) {
	p, _ := spare()
	for name, call := range calls() {
		if !alike(call(p), call(p)) {
			t.Error(name)
		}
	}
}

// backends is a pool out of bytes, with now and then a number beyond the edges.
func backends(s string) []api.Backend {
	far := []int{0, -1, 65535, 65536, 16, 17, math.MaxInt, math.MinInt}
	number := func(c byte) int {
		if c >= 248 {
			return far[c-248]
		}
		return int(c) % 40
	}
	var p []api.Backend
	for i := 0; i+1 < len(s); i += 2 {
		p = append(p, b(number(s[i]), number(s[i+1])))
	}
	return p
}

// P1, P2 at pools that a fuzzer makes up; as a plain test at these seeds.
func FuzzPool(f *testing.F) {
	f.Add("", "", 0, 0)
	f.Add("\x01\x01", "\x01\x02", 1, 1)
	f.Add("\x05\x01\x02\x02\x09\x03\x02\x04", "\x09\x09", 2, 7)
	f.Add("\xf8\x01\x01\xf8\xfa\x10\xfb\x11", "\xfe\xff\xff\xfe", 65536, 17)
	f.Add("\x09\x01\x08\x01\x07\x01\x06\x01\x05\x01\x04\x01\x03\x01\x02\x01\x01\x01", "\x01\x01\x03\x01\x09\x01", math.MinInt, -1)
	f.Fuzz(func(t *testing.T, s, u string, id, weight int) {
		// The sentences are slow at long lists: TestLong has those.
		p, q := backends(s[:min(len(s), 200)]), backends(u[:min(len(u), 200)])
		one(t, p, id, weight)
		two(t, p, q)
		two(t, q, p)
		two(t, p, p)
		two(t, p, Sorted(p))
		two(t, With(p, b(id, weight)), Without(p, id))
		for _, x := range q {
			one(t, p, x.Id, x.Weight)
		}
	})
}
