package model

import (
	"math"
	"slices"
	"testing"

	"gangplank/api"
	"gangplank/flows"
	"gangplank/fnv"
	"gangplank/packet"
	"gangplank/pool"
	"gangplank/probe"
	"gangplank/ring"
	"gangplank/sweep"
)

// numbers is numbers at which something might go wrong.
var numbers = []int{
	math.MinInt, math.MinInt + 1, -1 << 32, -1000000, -65, -2, -1, 0, 1, 2, 3, 4, 5, 7, 8, 9, 15, 16, 17, 63, 64, 65, 255, 256,
	999999, 1000000, 1000001, 1 << 31, 1 << 32, 1<<32 + 1, math.MaxInt - 1, math.MaxInt,
}

// tomb is a Tomb in which nothing else stands, free an Empty entry.
var tomb, free = api.Entry{State: 2}, api.Entry{}

// flow is a Live entry.
func flow(key string, backend, deadline int) api.Entry {
	return api.Entry{State: 1, Key: key, Backend: backend, Deadline: deadline}
}

// on is a row of entries.
func on(entries ...api.Entry) []api.Entry { return entries }

// with is a table with another entry at some places.
func with(t []api.Entry, e api.Entry, places ...int) []api.Entry {
	u := slices.Clone(t)
	for _, at := range places {
		u[at] = e
	}
	return u
}

// b is a backend.
func b(id, weight int) api.Backend { return api.Backend{Id: id, Weight: weight} }

// list is a pool.
func list(bs ...api.Backend) []api.Backend { return bs }

// many is a pool of n backends, of the Ids from first on, of all Weights.
func many(first, n int) []api.Backend {
	var p []api.Backend
	for i := range n {
		p = append(p, b(first+i, (first+i)%16+1))
	}
	return p
}

// put is a pool with another backend at a place.
func put(p []api.Backend, at int, x api.Backend) []api.Backend {
	q := slices.Clone(p)
	q[at] = x
	return q
}

// bad is pools of which pool.Check does not tell OK: each fault alone, and with others.
func bad() [][]api.Backend {
	return [][]api.Backend{
		many(1, 33), many(1, 34), many(1, 200), make([]api.Backend, 33),
		list(b(0, 1)), list(b(-1, 1)), list(b(65536, 1)), list(b(math.MinInt, 1)), list(b(math.MaxInt, 1)), list(b(1<<32+1, 1)),
		list(b(1, 0)), list(b(1, -1)), list(b(1, 17)), list(b(1, math.MinInt)), list(b(1, math.MaxInt)), list(b(1, 1<<32+1)),
		list(b(1, 1), b(1, 1)), list(b(1, 1), b(1, 2)), list(b(3, 1), b(2, 1), b(3, 1)), list(b(0, 0)), list(b(0, 17), b(0, 17)),
		put(many(1, 32), 31, b(1, 1)), put(many(1, 32), 31, b(0, 1)), put(many(1, 32), 31, b(99, 17)), slices.Repeat(list(b(7, 1)), 32),
	}
}

// good is pools that may be.
func good() [][]api.Backend {
	return [][]api.Backend{
		nil, list(), list(b(7, 1)), list(b(1, 1)), list(b(65535, 16)), list(b(4, 1), b(9, 2)), list(b(9, 2), b(4, 1)), list(b(4, 2), b(9, 2)),
		many(1, 31), many(100, 32), many(65504, 32),
	}
}

// want fails, if something is not so.
func want(t *testing.T, name string, so bool) {
	t.Helper()
	if !so {
		t.Error(name)
	}
}

// chance is numbers from 0 on, below n, all over: the same for the same seed.
func chance(seed uint64) func(n int) int {
	return func(n int) int {
		seed = seed*6364136223846793005 + 1442695040888963407
		return int(seed >> 33 % uint64(n))
	}
}

// keyOf is the i-th of many keys: of both versions and both protocols.
func keyOf(i int) api.Key {
	if i%4 < 2 {
		return api.Key{V: 4, Src: "\x0a\x00\x00\x01", Dst: "\x0a\x00\x01\x01", From: i / 4, To: 80, Proto: []int{6, 17}[i%2]}
	}
	return api.Key{V: 6, Src: "\x20\x01\x00\x00\x00\x00\x00\x00\x00\x00\x00\x00\x00\x00\x00\x01", Dst: "\x20\x01\x00\x00\x00\x00\x00\x00\x00\x00\x00\x00\x00\x00\x00\x02", From: i / 4, To: 443, Proto: []int{6, 17}[i%2]}
}

// tcp is the i-th of many keys of Tcp, which alone has flags.
func tcp(i int) api.Key { return keyOf(2 * i) }

// pack is a packet of a key.
func pack(k api.Key, flags int) string {
	if k.Proto == api.Udp {
		flags = 0
	}
	s, err := packet.Put(api.Packet{Key: k, Flags: flags})
	if err != api.OK {
		panic(err)
	}
	return s
}

// bytesOf is a key's bytes.
func bytesOf(k api.Key) string {
	s, ok := packet.Bytes(k)
	if !ok {
		panic("no key")
	}
	return s
}

// dispatch, update, expire and stats are operations.
func dispatch(k api.Key, flags int) api.Op { return api.Op{Kind: 0, Packet: pack(k, flags)} }
func update(p ...api.Backend) api.Op       { return api.Op{Kind: 1, Pool: p} }
func expire(shard int) api.Op              { return api.Op{Kind: 2, Shard: shard} }
func stats() api.Op                        { return api.Op{Kind: 3} }

// config is a config that may be.
func config(shards, capacity, idle int) api.Config {
	return api.Config{Workers: 1, Shards: shards, Capacity: capacity, Idle: idle, Slots: 2}
}

// made is a model.
func made(t testing.TB, shards, capacity, idle int) *Model {
	t.Helper()
	m, err := New(config(shards, capacity, idle))
	if err != api.OK || m == nil {
		t.Fatalf("%d shards, capacity %d, idle %d: %v", shards, capacity, idle, err)
	}
	return m
}

// homes is, of each place of a shard's table, a key of Tcp of that shard whose way begins there.
func homes(t testing.TB, shard, shards, capacity int) []api.Key {
	t.Helper()
	keys, left := make([]api.Key, capacity), capacity
	for i := 0; left > 0; i++ {
		if i == 100000 {
			t.Fatalf("shard %d of %d: too few keys", shard, shards)
		}
		h := fnv.Sum(bytesOf(tcp(i)))
		if int(h>>32%uint64(shards)) != shard {
			continue
		}
		if at := h % uint64(capacity); keys[at].V == 0 {
			keys[at] = tcp(i)
			left--
		}
	}
	return keys
}

// another is a key of Tcp of a shard that is none of these.
func another(shard, shards int, keys []api.Key) api.Key {
	for i := 0; ; i++ {
		if k := tcp(i); Shard(bytesOf(k), shards) == shard && !slices.Contains(keys, k) {
			return k
		}
	}
}

// keysAt is several texts whose ways begin at a place of a table of n entries.
func keysAt(t testing.TB, home, n, many int) []string {
	t.Helper()
	var keys []string
	for i := 0; len(keys) < many; i++ {
		if i == 100000 {
			t.Fatalf("too few keys whose ways begin at %d of %d", home, n)
		}
		if key := "key" + string(rune('0'+i%64)) + string(rune('0'+i/64)); probe.Home(key, n) == home {
			keys = append(keys, key)
		}
	}
	return keys
}

// wantDecide is Decide by the chapter's own sentences.
func wantDecide(t []api.Entry, p []api.Backend, key string, closing bool, now, idle int) ([]api.Entry, api.Answer) {
	at := probe.Find(t, key)
	known := at != -1 && !(t[at].Deadline < now) && slices.ContainsFunc(p, func(x api.Backend) bool { return x.Id == t[at].Backend })
	var a api.Answer
	switch {
	case known:
		a.Backend = t[at].Backend
	case len(p) == 0:
		return t, api.Answer{Err: 11}
	default:
		a.Backend = ring.Pick(p, fnv.Sum(key))
	}
	if closing {
		u, _ := flows.Delete(t, key)
		return u, a
	}
	a.Made = !known
	u, err := flows.Put(t, key, a.Backend, now+idle)
	if err == api.ErrTableFull {
		return t, api.Answer{Err: 12}
	}
	return u, a
}

// book is a model by the chapter's own sentences: it is told what a config says, and done to by hand.
type book struct {
	c      api.Config
	pool   []api.Backend
	tables [][]api.Entry
	places []int
}

// newBook is the book of a new model.
func newBook(c api.Config) *book {
	k := &book{c: c}
	for range c.Shards {
		k.tables = append(k.tables, make([]api.Entry, c.Capacity))
		k.places = append(k.places, 0)
	}
	return k
}

// do is what Do does.
func (k *book) do(op api.Op, now int) api.Answer {
	switch op.Kind {
	case 0:
		p, err := packet.Parse(op.Packet)
		if err != api.OK {
			return api.Answer{Err: 9}
		}
		key := bytesOf(p.Key)
		closing := p.Key.Proto == 6 && p.Flags&5 != 0
		shard := int(fnv.Sum(key) / (1 << 32) % uint64(k.c.Shards))
		u, a := wantDecide(k.tables[shard], k.pool, key, closing, now, k.c.Idle)
		k.tables[shard] = u
		return a
	case 1:
		if pool.Check(op.Pool) == api.OK {
			k.pool = slices.Clone(op.Pool)
			return api.Answer{}
		}
		return api.Answer{Err: 10}
	case 2:
		if op.Shard < 0 || op.Shard > k.c.Shards-1 {
			return api.Answer{Err: 1}
		}
		var a api.Answer
		k.tables[op.Shard], k.places[op.Shard], a.Count = sweep.Step(k.tables[op.Shard], k.places[op.Shard], 4, now)
		return a
	case 3:
		var a api.Answer
		for _, t := range k.tables {
			for _, e := range t {
				if e.State == 1 {
					a.Count++
				}
			}
		}
		return a
	}
	return api.Answer{Err: 1}
}

// hold holds all that a model tells of itself against a book.
func hold(t *testing.T, m *Model, k *book) {
	t.Helper()
	if p := m.Pool(); !slices.Equal(p, k.pool) {
		t.Fatalf("pool %v, not %v", p, k.pool)
	}
	for i, table := range k.tables {
		if u := m.Table(i); !slices.Equal(u, table) {
			t.Fatalf("shard %d: %v, not %v", i, u, table)
		}
	}
	if len(m.Table(-1)) != 0 || len(m.Table(len(k.tables))) != 0 {
		t.Fatal("more shards")
	}
}

// holdDo holds Do against a book, and what it was handed against what that was.
func holdDo(t *testing.T, m *Model, k *book, op api.Op, now int) api.Answer {
	t.Helper()
	was := slices.Clone(op.Pool)
	wanted := k.do(op, now)
	a := m.Do(op, now)
	if a != wanted {
		t.Fatalf("%+v at %d: %+v, not %+v", op, now, a, wanted)
	}
	if !slices.Equal(op.Pool, was) {
		t.Fatalf("%+v at %d: changed, from %v", op, now, was)
	}
	hold(t, m, k)
	return a
}

// alike fails, unless two models tell the same of themselves, and go on alike: only so the places are seen from which flows are looked for.
func alike(t *testing.T, name string, m, n *Model) {
	t.Helper()
	m, n = m.Copy(), n.Copy()
	same := func() {
		t.Helper()
		for i := range 17 {
			if !slices.Equal(m.Table(i), n.Table(i)) {
				t.Fatalf("%s: shard %d: %v, not %v", name, i, m.Table(i), n.Table(i))
			}
		}
		if !slices.Equal(m.Pool(), n.Pool()) || m.Do(stats(), 0) != n.Do(stats(), 0) {
			t.Fatalf("%s: %v, not %v", name, m.Pool(), n.Pool())
		}
	}
	same()
	for _, x := range []*Model{m, n} {
		x.Do(update(b(7, 1)), 0)
		for i := range 300 {
			x.Do(dispatch(tcp(i), 0), math.MaxInt-1000000)
		}
	}
	same()
	for i := range 16 {
		m.Do(expire(i), math.MaxInt)
		n.Do(expire(i), math.MaxInt)
		same()
	}
}
