package model

import (
	"fmt"
	"math"
	"slices"
	"strings"
	"testing"

	"gangplank/api"
	"gangplank/flows"
	"gangplank/fnv"
	"gangplank/octet"
	"gangplank/packet"
	"gangplank/pool"
	"gangplank/probe"
	"gangplank/ring"
	"gangplank/sum"
)

// fields is each field of a config, and its lowest and its greatest number.
var fields = []struct {
	name      string
	low, high int
	of        func(c *api.Config) *int
}{
	{"Workers", 1, 64, func(c *api.Config) *int { return &c.Workers }},
	{"Shards", 1, 16, func(c *api.Config) *int { return &c.Shards }},
	{"Capacity", 1, 64, func(c *api.Config) *int { return &c.Capacity }},
	{"Idle", 0, 1000000, func(c *api.Config) *int { return &c.Idle }},
	{"Slots", 2, 8, func(c *api.Config) *int { return &c.Slots }},
}

// edges is configs that may be, all at their edges, and some between.
func edges() []api.Config {
	all := []api.Config{{Workers: 3, Shards: 5, Capacity: 10, Idle: 77, Slots: 4}}
	for bits := range 1 << len(fields) {
		var c api.Config
		for i, f := range fields {
			*f.of(&c) = []int{f.low, f.high}[bits>>i&1]
		}
		all = append(all, c)
	}
	return all
}

// holdNew holds Check and New of a config against whether it may be.
func holdNew(t *testing.T, c api.Config, may bool) {
	t.Helper()
	err := map[bool]api.Errno{true: 0, false: 1}[may]
	m, told := New(c)
	if Check(c) != err || told != err || (m != nil) != may {
		t.Errorf("%+v: %v, %v, a model: %v; not %v", c, Check(c), told, m != nil, err)
	}
}

// P1, P2, Errors: Check and New at each field's edges, one beyond each, and at numbers far off, whatever the other fields are.
func TestCheck(t *testing.T) {
	for _, c := range edges() {
		holdNew(t, c, true)
		for _, f := range fields {
			for _, n := range append([]int{f.low - 1, f.low, f.low + 1, (f.low + f.high) / 2, f.high - 1, f.high, f.high + 1, -f.low, -f.high, 1<<32 + f.low, math.MinInt + f.low}, numbers...) {
				x := c
				*f.of(&x) = n
				holdNew(t, x, n >= f.low && n <= f.high)
			}
		}
	}
}

// P2, Errors: one fault is enough, and so are two of any fields.
func TestCheckOfTwoFaults(t *testing.T) {
	for _, c := range edges() {
		for _, f := range fields {
			for _, g := range fields {
				for _, n := range []int{f.low - 1, f.high + 1, math.MinInt, math.MaxInt} {
					for _, k := range []int{g.low - 1, g.high + 1, math.MinInt, math.MaxInt} {
						x := c
						*f.of(&x), *g.of(&x) = n, k
						holdNew(t, x, false)
					}
				}
			}
		}
	}
	holdNew(t, api.Config{}, false)
	holdNew(t, api.Config{Workers: -1, Shards: -1, Capacity: -1, Idle: -1, Slots: -1}, false)
}

// P2: the limits are api's.
func TestLimits(t *testing.T) {
	holdNew(t, api.Config{Workers: api.MaxWorkers, Shards: api.MaxShards, Capacity: api.MaxCapacity, Idle: api.MaxIdle, Slots: api.MaxSlots}, true)
}

// P2: a new model has no backends, and of each shard a table of as many Empty entries as its capacity; and looks for flows from the place 0 on.
func TestNew(t *testing.T) {
	for shards := 1; shards <= 16; shards++ {
		for capacity := 1; capacity <= 64; capacity++ {
			m := made(t, shards, capacity, 5)
			if len(m.Pool()) != 0 || m.Do(stats(), 0) != (api.Answer{}) {
				t.Fatal(shards, capacity)
			}
			for i := range shards {
				if !slices.Equal(m.Table(i), flows.New(capacity)) || len(m.Table(i)) != capacity {
					t.Fatal(shards, capacity, i, m.Table(i))
				}
			}
			for _, i := range append([]int{-shards, shards, shards + 1}, numbers...) {
				if (i < 0 || i >= shards) && len(m.Table(i)) != 0 {
					t.Fatal(shards, capacity, i, m.Table(i))
				}
			}
		}
	}
	for shard := range 3 {
		m := made(t, 3, 9, 0)
		m.Do(update(b(7, 1)), 0)
		for _, k := range homes(t, shard, 3, 9) {
			m.Do(dispatch(k, 0), 0)
		}
		want(t, "four of nine", m.Do(expire(shard), 1) == api.Answer{Count: 4})
		for at, e := range m.Table(shard) {
			want(t, "from 0 on", (e == tomb) == (at < 4))
		}
	}
}

// P2: Shard of keys whose hashes are known, at all numbers of shards.
func TestShard(t *testing.T) {
	for key, upper := range map[string]int{"": 0xcbf29ce4, "a": 0xaf63dc4c, "foobar": 0x85944171} {
		for _, n := range append([]int{6, 10, 11, 13, 100, 1000, upper - 1, upper, upper + 1}, numbers...) {
			shard := 0
			if n >= 1 {
				shard = upper % n
			}
			if got := Shard(key, n); got != shard {
				t.Errorf("Shard %q %d: %d, not %d", key, n, got, shard)
			}
		}
	}
	want(t, "examples", Shard("", 16) == 4 && Shard("a", 16) == 12 && Shard("foobar", 16) == 1 && Shard("foobar", math.MaxInt) == 2241085809)
	for _, key := range []string{"", "a", "\x00", "\xff", "\x80\x81", strings.Repeat("k", 38), strings.Repeat("\x00", 100000)} {
		for _, n := range numbers {
			shard := 0
			if n > 0 {
				shard = int(uint32(fnv.Sum(key)>>32)) % n
			}
			want(t, key, Shard(key, n) == shard)
		}
	}
}

// P2: keys go to all shards, and in each shard they stand all over its table.
func TestSpread(t *testing.T) {
	for n := 1; n <= 16; n++ {
		seen := map[[2]int]int{}
		for i := range 4000 {
			key := bytesOf(keyOf(i))
			seen[[2]int{Shard(key, n), probe.Home(key, n)}]++
		}
		if len(seen) != n*n {
			t.Errorf("%d: %d", n, len(seen))
		}
	}
}

// P2: the chapter's example: with an empty pool each packet that may be is ErrNoBackend.
func TestExamples(t *testing.T) {
	for _, c := range edges() {
		m, _ := New(c)
		k := newBook(c)
		for i := range 8 {
			for _, flags := range []int{0, 1, 2, 4, 16, 255} {
				for _, now := range []int{math.MinInt, 0, math.MaxInt} {
					want(t, "no backend", m.Do(dispatch(keyOf(i), flags), now) == api.Answer{Err: 11})
				}
			}
		}
		hold(t, m, k)
	}
}

// P1, P2, Errors: of kinds that there are not ErrArg is told, whatever else the operation has, and nothing is changed.
func TestKinds(t *testing.T) {
	m, k := grown(t)
	for _, kind := range append([]int{-4, -3, 6, 1<<32 + 1, 1<<32 + 3}, numbers...) {
		if kind >= 0 && kind <= 3 {
			continue
		}
		for _, op := range []api.Op{{}, dispatch(keyOf(1), 0), dispatch(tcp(1), 1), update(b(1, 1)), update(b(0, 0)), expire(0), expire(-1), {Packet: pack(keyOf(3), 0), Pool: list(b(1, 1)), Shard: 1}} {
			op.Kind = kind
			if a := holdDo(t, m, k, op, 60); a != (api.Answer{Err: 1}) {
				t.Errorf("%d: %+v", kind, a)
			}
		}
	}
	other, _ := grown(t)
	alike(t, "kinds", m, other)
}

// P2: each kind sees of an operation just what is its own.
func TestOwnFields(t *testing.T) {
	full := api.Op{Packet: pack(keyOf(99), 0), Pool: list(b(1, 1)), Shard: 1}
	wrong := api.Op{Packet: "x", Pool: list(b(0, 0)), Shard: -1}
	for kind, own := range []api.Op{{Packet: full.Packet}, {Pool: full.Pool}, {Shard: 1}, {}} {
		mixed := wrong
		switch kind {
		case 0:
			mixed.Packet = full.Packet
		case 1:
			mixed.Pool = full.Pool
		case 2:
			mixed.Shard = 1
		}
		var told []api.Answer
		for _, op := range []api.Op{own, full, mixed} {
			op.Kind = kind
			m, k := grown(t)
			told = append(told, holdDo(t, m, k, op, 60))
		}
		want(t, "alike", told[0] == told[1] && told[0] == told[2] && told[0].Err == api.OK)
	}
}

// grown is a model of three shards, with backends, flows, Tombs, and places from which flows are looked for; and its book.
func grown(t *testing.T) (*Model, *book) {
	t.Helper()
	m, k := made(t, 3, 6, 10), newBook(config(3, 6, 10))
	for i, op := range []api.Op{
		update(b(4, 1), b(9, 2)), dispatch(keyOf(1), 0), dispatch(keyOf(2), 0), dispatch(tcp(2), 2), expire(0), update(many(20, 5)...), dispatch(keyOf(7), 0), dispatch(keyOf(8), 0),
		dispatch(keyOf(11), 0), dispatch(keyOf(12), 0), dispatch(tcp(4), 1), expire(1), expire(1), dispatch(keyOf(13), 0), dispatch(keyOf(14), 0), expire(2), dispatch(tcp(8), 4), dispatch(keyOf(16), 0),
	} {
		holdDo(t, m, k, op, 40+i)
	}
	return m, k
}

// malformed is texts of which packet.Parse tells each of its errors.
func malformed() map[api.Errno][]string {
	s, six := pack(tcp(2), 2), pack(keyOf(2), 0)
	summed := func(head string) string {
		return head[:10] + octet.Put(uint64(sum.Sum(head[:10]+"\x00\x00"+head[12:20])), 2) + head[12:]
	}
	return map[api.Errno][]string{
		2: {"", s[:1], s[:19], six[:1], six[:39], six[:6] + "\x2c" + six[7:39]},
		3: {"\x00" + s[1:], "\x10" + s[1:], "\x55" + s[1:], "\x70" + six[1:], "\xff" + s, "x", " "},
		4: {"\x44" + s[1:], s[:39], s[:20], six[:40], six[:len(six)-1], s[:3] + "\x29" + s[4:], "\x4f" + s[1:]},
		5: {s[:10] + "\x00\x00" + s[12:], s[:8] + "\x41" + s[9:], s[:19] + "\x07" + s[20:]},
		6: {summed(s[:6] + "\x60\x00" + s[8:]), summed(s[:6] + "\x00\x01" + s[8:])},
		7: {summed(s[:9] + "\x01" + s[10:]), summed(s[:9] + "\x00" + s[10:]), six[:6] + "\x3a" + six[7:]},
		8: {s[:32] + "\x40" + s[33:], s[:32] + "\x60" + s[33:], s[:32] + "\x00" + s[33:]},
	}
}

// P1, P2, Errors: packets that are cut, broken, or none, with backends and without: ErrMalformed, whatever packet.Parse tells of them.
func TestMalformed(t *testing.T) {
	for _, p := range [][]api.Backend{nil, list(b(4, 1), b(9, 2))} {
		m, k := made(t, 2, 4, 10), newBook(config(2, 4, 10))
		holdDo(t, m, k, update(p...), 0)
		for err, texts := range malformed() {
			for _, s := range texts {
				if _, told := packet.Parse(s); told != err {
					t.Fatalf("%q: %v, not %v", s, told, err)
				}
				want(t, "malformed", holdDo(t, m, k, api.Op{Packet: s}, 5) == api.Answer{Err: 9})
			}
		}
		for i := range 4 {
			s := pack(keyOf(i), 0)
			for n := range len(s) {
				want(t, "cut", holdDo(t, m, k, api.Op{Packet: s[:n]}, 5) == api.Answer{Err: 9})
			}
		}
		want(t, "no flow", m.Do(stats(), 5) == api.Answer{})
		// Each byte of a packet turned: what is left of it may be one, or may not.
		for i := range 4 {
			s := pack(keyOf(i), 0)
			for at := range len(s) {
				for _, x := range []byte{0x01, 0x0f, 0x10, 0x80, 0xff} {
					holdDo(t, m, k, api.Op{Packet: s[:at] + string([]byte{s[at] ^ x}) + s[at+1:]}, 5)
				}
			}
		}
	}
}

// P2, P5: a flow is made, stays with its backend as long as it is known, goes to where the ring says when its time is over, and is gone when it closes.
func TestDispatch(t *testing.T) {
	for i := range 40 {
		key := bytesOf(keyOf(i))
		p := list(b(3, 1), b(5, 2), b(8, 1))
		m, k := made(t, 4, 3, 10), newBook(config(4, 3, 10))
		shard := Shard(key, 4)
		holdDo(t, m, k, update(p...), 0)
		backend := ring.Pick(p, fnv.Sum(key))
		for _, x := range []struct {
			now  int
			made bool
		}{{5, true}, {5, false}, {15, false}, {14, false}, {24, false}, {35, true}, {45, false}, {56, true}, {-100, false}, {-89, true}} {
			a := holdDo(t, m, k, dispatch(keyOf(i), 16), x.now)
			if a != (api.Answer{Backend: backend, Made: x.made}) {
				t.Errorf("%d at %d: %+v", i, x.now, a)
			}
			table := m.Table(shard)
			if at := probe.Find(table, key); at != probe.Home(key, 3) || table[at] != flow(key, backend, x.now+10) {
				t.Errorf("%d at %d: %v", i, x.now, table)
			}
		}
		// Others come, it stays; its own goes, it does not.
		q := append(slices.DeleteFunc(slices.Clone(p), func(x api.Backend) bool { return x.Id != backend }), many(100, 30)...)
		holdDo(t, m, k, update(q...), -88)
		want(t, "it stays", holdDo(t, m, k, dispatch(keyOf(i), 0), -80) == api.Answer{Backend: backend})
		holdDo(t, m, k, update(q[1:]...), -79)
		elsewhere := ring.Pick(q[1:], fnv.Sum(key))
		want(t, "it goes", holdDo(t, m, k, dispatch(keyOf(i), 0), -79) == api.Answer{Backend: elsewhere, Made: true})
		holdDo(t, m, k, update(p...), -79)
		want(t, "it comes back", holdDo(t, m, k, dispatch(keyOf(i), 0), -79) == api.Answer{Backend: backend, Made: true})
		holdDo(t, m, k, update(), -79)
		want(t, "no backend", holdDo(t, m, k, dispatch(keyOf(i), 0), -79) == api.Answer{Err: 11})
		holdDo(t, m, k, update(q...), -79)
		want(t, "known again", holdDo(t, m, k, dispatch(keyOf(i), 0), -79) == api.Answer{Backend: backend})
		want(t, "one flow", m.Do(stats(), 0) == api.Answer{Count: 1})
	}
}

// P2: packets that close: of Tcp with Fin or Rst, of no other flags; and never of Udp.
func TestClosingPackets(t *testing.T) {
	for i := range 12 {
		for flags := range 256 {
			k := keyOf(i)
			if k.Proto == 17 && flags > 0 {
				continue
			}
			m := made(t, 2, 5, 10)
			m.Do(update(b(6, 1)), 0)
			closes := k.Proto == 6 && (flags%2 == 1 || flags/4%2 == 1)
			want(t, "of none", m.Do(dispatch(k, flags), 0) == api.Answer{Backend: 6, Made: !closes})
			m.Do(dispatch(k, 0), 0)
			want(t, "of one", m.Do(dispatch(k, flags), 0) == api.Answer{Backend: 6})
			if m.Do(stats(), 0) != (api.Answer{Count: map[bool]int{true: 0, false: 1}[closes]}) {
				t.Errorf("%d, flags %d", i, flags)
			}
		}
	}
}

// P2, P5: a packet that closes goes to where its flow stands, though the ring says another backend; behind it the flow is made anew.
func TestCloseAndOpen(t *testing.T) {
	for i := range 30 {
		m, k := made(t, 2, 40, 10), newBook(config(2, 40, 10))
		holdDo(t, m, k, update(b(1, 1)), 0)
		holdDo(t, m, k, dispatch(tcp(i), 2), 0)
		p := append(many(100, 31), b(1, 1))
		holdDo(t, m, k, update(p...), 0)
		want(t, "where it stands", holdDo(t, m, k, dispatch(tcp(i), 1), 10) == api.Answer{Backend: 1})
		want(t, "gone", m.Do(stats(), 10) == api.Answer{})
		elsewhere := ring.Pick(p, fnv.Sum(bytesOf(tcp(i))))
		want(t, "closed once more", holdDo(t, m, k, dispatch(tcp(i), 4), 10) == api.Answer{Backend: elsewhere})
		want(t, "made anew", holdDo(t, m, k, dispatch(tcp(i), 16), 10) == api.Answer{Backend: elsewhere, Made: true})
		// One whose time is over goes to where the ring says, and is gone, too.
		want(t, "late", holdDo(t, m, k, dispatch(tcp(i), 4), 21) == api.Answer{Backend: elsewhere} && m.Do(stats(), 21) == api.Answer{})
	}
}

// P2: flows are told by their keys, not by what else their packets hold; nor by the bytes of their addresses alone.
func TestKeys(t *testing.T) {
	short, long := "\x0a\x00\x00\x01", "\x0a\x00\x00\x01"+strings.Repeat("\x00", 12)
	four := api.Key{V: 4, Src: short, Dst: short, From: 1, To: 2, Proto: 6}
	six := api.Key{V: 6, Src: long, Dst: long, From: 1, To: 2, Proto: 6}
	keys := []api.Key{four, six}
	for _, k := range []api.Key{four, six} {
		udp, from, to, src, dst := k, k, k, k, k
		udp.Proto, from.From, to.To = 17, 258, 258
		src.Src, dst.Dst = "\x0b"+k.Src[1:], "\x0b"+k.Dst[1:]
		keys = append(keys, udp, from, to, src, dst)
	}
	for shards := 1; shards <= 16; shards++ {
		m, k := made(t, shards, 64, 10), newBook(config(shards, 64, 10))
		holdDo(t, m, k, update(b(4, 1), b(9, 2)), 0)
		for i, key := range keys {
			a := holdDo(t, m, k, dispatch(key, 0), 0)
			want(t, "each its own", a.Made && m.Do(stats(), 0).Count == i+1)
			holdDo(t, m, k, dispatch(key, 18), 0)
			op := dispatch(key, 0)
			op.Packet += "behind"
			again := holdDo(t, m, k, op, 10)
			want(t, "the same flow", again == api.Answer{Backend: a.Backend} && m.Do(stats(), 0).Count == i+1)
			want(t, "its shard", probe.Find(m.Table(Shard(bytesOf(key), shards)), bytesOf(key)) != -1)
		}
	}
}

// P2: a shard that is full takes no more flows, and another one does; what fails there leaves all as it is.
func TestFullShard(t *testing.T) {
	for _, capacity := range []int{1, 2, 5, 64} {
		for shard := range 2 {
			m, k := made(t, 2, capacity, 10), newBook(config(2, capacity, 10))
			holdDo(t, m, k, update(b(6, 1)), 0)
			full, other := homes(t, shard, 2, capacity), homes(t, 1-shard, 2, capacity)
			for _, key := range full {
				want(t, "made", holdDo(t, m, k, dispatch(key, 0), 0) == api.Answer{Backend: 6, Made: true})
			}
			one := another(shard, 2, full)
			// Flows whose time is over stand there all the same.
			for _, now := range []int{0, 10, 11, math.MaxInt, math.MinInt} {
				want(t, "full", holdDo(t, m, k, dispatch(one, 0), now) == api.Answer{Err: 12})
				want(t, "closing", holdDo(t, m, k, dispatch(one, 1), now) == api.Answer{Backend: 6})
			}
			want(t, "known", holdDo(t, m, k, dispatch(full[0], 0), 10) == api.Answer{Backend: 6})
			want(t, "late", holdDo(t, m, k, dispatch(full[0], 0), 21) == api.Answer{Backend: 6, Made: true})
			want(t, "elsewhere", holdDo(t, m, k, dispatch(other[0], 0), 21) == api.Answer{Backend: 6, Made: true})
			want(t, "closed", holdDo(t, m, k, dispatch(full[0], 4), 21) == api.Answer{Backend: 6})
			want(t, "room", holdDo(t, m, k, dispatch(one, 0), 21) == api.Answer{Backend: 6, Made: true})
		}
	}
}

// P2, Errors: an Update of each pool that may be, and of each that may not.
func TestUpdate(t *testing.T) {
	for _, old := range good() {
		m, k := grown(t)
		tables := [][]api.Entry{m.Table(0), m.Table(1), m.Table(2)}
		want(t, "may be", holdDo(t, m, k, update(old...), 70) == api.Answer{} && pool.Same(m.Pool(), old))
		for _, p := range bad() {
			want(t, "may not be", holdDo(t, m, k, update(p...), 70) == api.Answer{Err: 10} && pool.Same(m.Pool(), old))
		}
		for _, p := range good() {
			want(t, "may be, too", holdDo(t, m, k, update(p...), 70) == api.Answer{} && pool.Same(m.Pool(), p))
			for i, table := range tables {
				want(t, "tables stay", slices.Equal(m.Table(i), table))
			}
		}
	}
	m := made(t, 1, 1, 0)
	for n := range 40 {
		want(t, "as many as may be", m.Do(update(many(1, n)...), 0).Err == map[bool]api.Errno{true: 0, false: 10}[n <= 32] && len(m.Pool()) == min(n, 32))
	}
}

// P1, P2, Errors: an Expire of each shard, and of those that there are not.
func TestExpireShards(t *testing.T) {
	for shards := 1; shards <= 16; shards++ {
		m, k := made(t, shards, 3, 0), newBook(config(shards, 3, 0))
		holdDo(t, m, k, update(b(6, 1)), 0)
		for shard := range shards {
			holdDo(t, m, k, dispatch(homes(t, shard, shards, 1)[0], 0), shard)
		}
		for _, shard := range append([]int{-shards, -shards - 1, shards, shards + 1, shards + 1<<32}, numbers...) {
			if shard < 0 || shard >= shards {
				want(t, "no shard", holdDo(t, m, k, expire(shard), math.MaxInt) == api.Answer{Err: 1})
			}
		}
		want(t, "all are there", m.Do(stats(), 0) == api.Answer{Count: shards})
		for shard := range shards {
			want(t, "just now", holdDo(t, m, k, expire(shard), shard) == api.Answer{})
			want(t, "one later", holdDo(t, m, k, expire(shard), shard+1) == api.Answer{Count: 1})
			want(t, "gone", holdDo(t, m, k, expire(shard), math.MaxInt) == api.Answer{})
			want(t, "one less", m.Do(stats(), 0) == api.Answer{Count: shards - shard - 1})
		}
	}
}

// P2: an Expire looks at four places, from that on where the last one of its shard stopped, and goes around; nothing else moves that place.
func TestExpireAround(t *testing.T) {
	for _, capacity := range []int{1, 2, 3, 4, 5, 6, 7, 8, 9, 10, 63, 64} {
		m, k := made(t, 2, capacity, 0), newBook(config(2, capacity, 0))
		holdDo(t, m, k, update(b(6, 1)), 0)
		keys := [2][]api.Key{homes(t, 0, 2, capacity), homes(t, 1, 2, capacity)}
		place, steps := [2]int{}, [2]int{1, 3}
		for now := range 40 {
			for shard := range 2 {
				// One shard goes on three times as fast as the other one.
				for range steps[shard] {
					for _, key := range keys[shard] {
						holdDo(t, m, k, dispatch(key, 0), now)
					}
					holdDo(t, m, k, expire(7), now+1)
					holdDo(t, m, k, stats(), now+1)
					holdDo(t, m, k, api.Op{Packet: "x"}, now+1)
					looked := min(4, capacity)
					if a := holdDo(t, m, k, expire(shard), now+1); a != (api.Answer{Count: looked}) {
						t.Fatalf("%d: %+v", capacity, a)
					}
					table := m.Table(shard)
					for i := range capacity {
						at := (place[shard] + i) % capacity
						if (table[at].State == 1) != (i >= looked) {
							t.Fatalf("%d, from %d on: %v", capacity, place[shard], table)
						}
					}
					place[shard] = (place[shard] + looked) % capacity
					// In vain, but the place moves on all the same.
					want(t, "in vain", holdDo(t, m, k, expire(shard), now) == api.Answer{})
					place[shard] = (place[shard] + looked) % capacity
				}
			}
			holdDo(t, m, k, update(b(6, 1), b(7, 1+now%16)), now)
		}
	}
}

// P2: all that is due is gone when the place has come around; what is not due stays, and is known.
func TestExpireAll(t *testing.T) {
	for _, capacity := range []int{1, 5, 9, 64} {
		m, k := made(t, 1, capacity, 10), newBook(config(1, capacity, 10))
		holdDo(t, m, k, update(b(6, 1)), 0)
		keys := homes(t, 0, 1, capacity)
		for i, key := range keys {
			holdDo(t, m, k, dispatch(key, 0), i%3)
		}
		sum := 0
		for range (capacity + 3) / 4 {
			sum += holdDo(t, m, k, expire(0), 12).Count
		}
		left := capacity / 3
		want(t, "two of three", sum == capacity-left && m.Do(stats(), 0) == api.Answer{Count: left})
		for i, key := range keys {
			want(t, "known", holdDo(t, m, k, dispatch(key, 0), 12) == api.Answer{Backend: 6, Made: i%3 < 2})
		}
	}
}

// P2: Stats counts the Live entries of all tables: also those whose time is over, or whose backend is gone; but no Tombs.
func TestStats(t *testing.T) {
	m, k := made(t, 3, 8, 10), newBook(config(3, 8, 10))
	count := func(n int) {
		t.Helper()
		for _, now := range []int{math.MinInt, 0, 5, math.MaxInt} {
			want(t, "so many", holdDo(t, m, k, stats(), now) == api.Answer{Count: n})
		}
	}
	count(0)
	holdDo(t, m, k, update(b(6, 1)), 0)
	count(0)
	n := 0
	for shard := range 3 {
		keys := homes(t, shard, 3, 8)
		for i := range 2 + 2*shard {
			holdDo(t, m, k, dispatch(keys[i], 0), 0)
			n++
			count(n)
		}
	}
	holdDo(t, m, k, update(b(7, 1)), 0)
	count(12)
	holdDo(t, m, k, update(), 0)
	count(12)
	holdDo(t, m, k, update(b(7, 1)), 0)
	holdDo(t, m, k, dispatch(homes(t, 2, 3, 8)[5], 4), 0)
	want(t, "a Tomb", probe.Count(m.Table(2), 2) == 1)
	count(11)
	holdDo(t, m, k, expire(1), 99)
	want(t, "four Tombs", probe.Count(m.Table(1), 2) == 4)
	count(7)
}

// P2, P5, Errors: an operation that fails changes nothing, nor the place from which flows are looked for.
func TestFails(t *testing.T) {
	without, _ := grown(t)
	without.Do(update(), 60)
	with, _ := grown(t)
	fresh := made(t, 1, 1, 0)
	full := made(t, 1, 1, 0)
	full.Do(update(b(6, 1)), 0)
	full.Do(dispatch(keyOf(9), 0), 0)
	for name, x := range map[string]struct {
		m    *Model
		ops  []api.Op
		told api.Errno
	}{
		"kinds":              {with, []api.Op{{Kind: 4}, {Kind: -1}, {Kind: math.MaxInt, Pool: list(b(1, 1))}, {Kind: math.MinInt, Packet: pack(keyOf(1), 0)}}, 1},
		"shards":             {with, []api.Op{expire(3), expire(-1), expire(math.MaxInt), expire(math.MinInt)}, 1},
		"pools":              {with, []api.Op{update(b(0, 1)), update(b(1, 17)), update(b(1, 1), b(1, 1)), update(many(1, 33)...)}, 10},
		"packets":            {with, []api.Op{{}, {Packet: "x"}, {Packet: pack(keyOf(1), 0)[:27]}, {Packet: "\x60" + strings.Repeat("\x00", 39)}}, 9},
		"packets of fresh":   {fresh, []api.Op{{}, {Packet: pack(keyOf(1), 0)[:27]}}, 9},
		"no backends":        {without, []api.Op{dispatch(keyOf(1), 0), dispatch(keyOf(16), 0), dispatch(tcp(3), 1), dispatch(tcp(6), 4), dispatch(keyOf(77), 0)}, 11},
		"none of fresh":      {fresh, []api.Op{dispatch(keyOf(1), 0), dispatch(tcp(1), 1)}, 11},
		"full":               {full, []api.Op{dispatch(keyOf(1), 0), dispatch(keyOf(8), 16)}, 12},
		"full, and no shard": {full, []api.Op{expire(1), {Kind: 5}}, 1},
	} {
		for i, op := range x.ops {
			for _, now := range []int{math.MinInt, 0, 41, 60, 1000, math.MaxInt} {
				was := x.m.Copy()
				if a := x.m.Do(op, now); a != (api.Answer{Err: x.told}) {
					t.Errorf("%s, %d at %d: %+v", name, i, now, a)
				}
				alike(t, name, x.m, was)
			}
		}
	}
}

// R3: what was handed to Do may be changed behind it: the model stays as it was.
func TestHandedIn(t *testing.T) {
	m, k := grown(t)
	whole := append(many(40, 6), b(99, 9))
	op := update(whole[:6]...)
	holdDo(t, m, k, op, 60)
	want(t, "what stands behind stays", whole[6] == b(99, 9))
	for i := range whole {
		whole[i] = b(0, 0)
	}
	hold(t, m, k)
	want(t, "as it was", pool.Same(m.Pool(), many(40, 6)))
	// What fails keeps nothing of it either.
	holdDo(t, m, k, update(whole[:6]...), 60)
	copy(whole, many(50, 6))
	hold(t, m, k)
	for i := range 30 {
		holdDo(t, m, k, dispatch(keyOf(i), 0), 60)
	}
}

// R3: what Pool and Table told may be changed behind it, and the model stays as it was.
func TestTold(t *testing.T) {
	m, k := grown(t)
	for range 3 {
		p := m.Pool()
		for i := range p[:cap(p)] {
			p[:cap(p)][i] = b(1, 1)
		}
		_ = append(p, b(2, 2))
		hold(t, m, k)
		for i := range 3 {
			table := m.Table(i)
			for at := range table[:cap(table)] {
				table[:cap(table)][at] = flow("z", 1, 1)
			}
			_ = append(table, free)
			hold(t, m, k)
		}
		for i := range 20 {
			holdDo(t, m, k, dispatch(keyOf(i), 0), 60)
		}
	}
}

// R3: what Pool and Table told stays as it was while the model goes on, whatever it does.
func TestToldStays(t *testing.T) {
	m, k := grown(t)
	next := chance(5)
	var pools, wasPools [][]api.Backend
	var tables, wasTables [][]api.Entry
	for now := range 400 {
		holdDo(t, m, k, anyOp(next, 3), 60+now)
		p, table := m.Pool(), m.Table(now%3)
		pools, wasPools = append(pools, p), append(wasPools, slices.Clone(p))
		tables, wasTables = append(tables, table), append(wasTables, slices.Clone(table))
	}
	for i := range pools {
		if !slices.Equal(pools[i], wasPools[i]) || !slices.Equal(tables[i], wasTables[i]) {
			t.Fatal(i)
		}
	}
}

// P2: a Copy tells what the model tells that it was made of, and goes on as that does.
func TestCopy(t *testing.T) {
	for _, c := range edges() {
		m, _ := New(c)
		next := chance(uint64(c.Capacity*c.Shards + c.Idle))
		for now := range 60 {
			m.Do(anyOp(next, c.Shards), now)
			if now%20 != 7 {
				continue
			}
			alike(t, "a copy", m, m.Copy())
			n := m.Copy().Copy()
			one, other := chance(uint64(now)), chance(uint64(now))
			x := m.Copy()
			for later := range 30 {
				if a, z := x.Do(anyOp(one, c.Shards), now+later), n.Do(anyOp(other, c.Shards), now+later); a != z {
					t.Fatalf("%+v: %+v, not %+v", c, z, a)
				}
			}
			alike(t, "a copy that went on", x, n)
		}
	}
}

// P2: a Copy goes its own way, and so does the one that it was made of: neither sees what the other one does.
func TestCopiesGoTheirWays(t *testing.T) {
	for seed := range uint64(20) {
		m, k := grown(t)
		n, l := m.Copy(), &book{c: k.c, pool: slices.Clone(k.pool), tables: slices.Clone(k.tables), places: slices.Clone(k.places)}
		one, other := chance(seed), chance(seed+100)
		for now := range 120 {
			// What the books tell is held against both, whichever went on.
			if now%3 != 0 {
				holdDo(t, m, k, anyOp(one, 3), 60+now)
			}
			if now%3 != 1 {
				holdDo(t, n, l, anyOp(other, 3), 60+now)
			}
			hold(t, m, k)
			hold(t, n, l)
		}
	}
	// Each kind alone.
	for i, op := range []api.Op{dispatch(keyOf(55), 0), dispatch(keyOf(16), 0), update(b(3, 3)), update(), expire(0), expire(1), expire(2), dispatch(tcp(8), 4)} {
		for _, back := range []bool{false, true} {
			m, _ := grown(t)
			twin, _ := grown(t)
			n := m.Copy()
			if back {
				m, n = n, m
			}
			n.Do(op, 60)
			alike(t, fmt.Sprint(i, back), m, twin)
		}
	}
}

// P1: a model that New did not make has no shards, and no flows.
func TestZero(t *testing.T) {
	for range 2 {
		m := &Model{}
		for _, n := range numbers {
			want(t, "no table", len(m.Table(n)) == 0 && len(m.Copy().Table(n)) == 0)
			want(t, "no shard", m.Do(expire(n), n) == api.Answer{Err: 1})
			want(t, "no backend", m.Do(dispatch(tcp(1), 0), n) == api.Answer{Err: 11} && m.Do(dispatch(tcp(1), 1), n) == api.Answer{Err: 11})
		}
		m.Do(update(b(6, 1)), 0)
		want(t, "full", m.Do(dispatch(tcp(1), 0), 0) == api.Answer{Err: 12})
		want(t, "closing", m.Do(dispatch(tcp(1), 1), 0) == api.Answer{Backend: 6})
		want(t, "none", m.Do(stats(), 0) == api.Answer{} && len(m.Pool()) == 1 && len(m.Table(0)) == 0)
	}
}

// R4: the same row of calls tells the same, whatever other models do between them.
func TestSameAgain(t *testing.T) {
	m, n, other := made(t, 3, 6, 9), made(t, 3, 6, 9), made(t, 3, 6, 9)
	one, two, three := chance(3), chance(3), chance(8)
	for now := range 500 {
		a := m.Do(anyOp(one, 3), now)
		other.Do(anyOp(three, 3), now)
		if z := n.Do(anyOp(two, 3), now); a != z {
			t.Fatalf("%d: %+v, not %+v", now, z, a)
		}
	}
	alike(t, "the same", m, n)
}

// anyOp is an operation of any kind, also one that may not be.
func anyOp(next func(n int) int, shards int) api.Op {
	switch kind := next(24); {
	case kind < 14:
		k := keyOf(next(40))
		return dispatch(k, []int{0, 0, 2, 16, 24, 1, 4}[next(7)])
	case kind < 17:
		p := many(1+next(9), next(6))
		if len(p) > 0 && next(5) == 0 {
			p[0] = p[len(p)-1]
		}
		return update(p...)
	case kind < 21:
		return expire(next(shards+2) - 1)
	case kind < 22:
		return api.Op{Packet: pack(keyOf(next(40)), 0)[next(3):]}
	case kind < 23:
		return api.Op{Kind: next(8) - 2, Pool: list(b(1, 1)), Shard: next(shards)}
	}
	return stats()
}

// P1, P2: long rows of operations of all kinds, of several configs, held against a book of the chapter's own sentences.
func TestLongRows(t *testing.T) {
	for _, shards := range []int{1, 2, 3, 16} {
		for _, capacity := range []int{1, 2, 4, 7, 64} {
			for _, idle := range []int{0, 1, 20, 1000000} {
				c := config(shards, capacity, idle)
				m, k := made(t, shards, capacity, idle), newBook(c)
				next := chance(uint64(shards + 100*capacity + idle))
				now := 0
				for range 400 {
					holdDo(t, m, k, anyOp(next, shards), now)
					now += next(4)
				}
				for i := range shards {
					want(t, "right", flows.Right(m.Table(i)) && len(m.Table(i)) == capacity)
				}
			}
		}
	}
}

// P1, P2: times at the edges, and times that go back.
func TestLongRowsOfOddTimes(t *testing.T) {
	for seed := range uint64(12) {
		m, k := made(t, 2, 5, 1000000), newBook(config(2, 5, 1000000))
		next := chance(seed)
		for range 400 {
			now := numbers[next(len(numbers))] + next(3) - 1
			if next(3) == 0 {
				now = math.MaxInt - next(2000000)
			}
			holdDo(t, m, k, anyOp(next, 2), now)
		}
	}
}

// P5: as a watcher sees it, who knows of no tables: each flow that was seen in time stays with its backend, as long as the pool has that; each other one goes to where the ring says; and what fails changes nothing.
func TestWatched(t *testing.T) {
	type seen struct{ backend, until int }
	for seed := range uint64(12) {
		shards, capacity, idle := 1+int(seed%3), 3+int(seed), 15
		m, next := made(t, shards, capacity, idle), chance(seed)
		var p []api.Backend
		flows := map[string]seen{}
		for now := range 1200 {
			op := anyOp(next, shards)
			a := m.Do(op, now)
			got, err := packet.Parse(op.Packet)
			switch {
			case op.Kind == 1 && pool.Check(op.Pool) == api.OK:
				p = op.Pool
			case op.Kind == 2 && a.Err == api.OK:
				// What is gone was due: else the flow would be made anew some day, and that is seen then.
				for key, f := range flows {
					if f.until < now && Shard(key, shards) == op.Shard && probe.Find(m.Table(op.Shard), key) == -1 {
						delete(flows, key)
						a.Count--
					}
				}
				want(t, "all that was due was there", a.Count == 0)
			case op.Kind == 3:
				want(t, "all are counted", a == api.Answer{Count: len(flows)})
			case op.Kind == 0 && err == api.OK:
				key := bytesOf(got.Key)
				f, there := flows[key]
				stays := there && f.until >= now && pool.Find(p, f.backend) != -1
				others := 0
				for other := range flows {
					if other != key && Shard(other, shards) == Shard(key, shards) {
						others++
					}
				}
				closing := packet.Closing(got)
				wanted := api.Answer{Backend: f.backend}
				switch {
				case stays:
				case len(p) == 0:
					wanted = api.Answer{Err: 11}
				case !closing && !there && others == capacity:
					wanted = api.Answer{Err: 12}
				default:
					wanted = api.Answer{Backend: ring.Pick(p, fnv.Sum(key)), Made: !closing}
				}
				if a != wanted {
					t.Fatalf("%d: %q: %+v, not %+v", now, key, a, wanted)
				}
				if a.Err == api.OK && closing {
					delete(flows, key)
				} else if a.Err == api.OK {
					flows[key] = seen{a.Backend, now + idle}
				}
			}
		}
	}
}

// P1, P2, R3: whatever configs, operations and times there are.
func FuzzModel(f *testing.F) {
	f.Add(2, 3, 10, "\x00\x00\x00\x01\x05\x01\x00\x01\x02", 0)
	f.Add(0, 65, -1, "\x02\x01\x01\x03\x00\x00", math.MaxInt)
	f.Add(16, 64, 1000000, strings.Repeat("\x01\x07\x40\x00\x09\x05\x00\x0a\x10\x02\x00\x00\x03\x00\x00", 9), math.MinInt)
	f.Add(1, 1, 0, "\x01\x01\x01\x00\x01\x01\x00\x02\x01\x00\x01\x02\x02\x00\x09\x04\x00\x00", 7)
	f.Fuzz(func(t *testing.T, shards, capacity, idle int, row string, now int) {
		c := config(shards, capacity, idle)
		m, err := New(c)
		if may := shards >= 1 && shards <= 16 && capacity >= 1 && capacity <= 64 && idle >= 0 && idle <= 1000000; (err == api.OK) != may || (m != nil) != may {
			t.Fatalf("%+v: %v", c, err)
		}
		if m == nil {
			holdDecide(t, flows.New(capacity%70), many(1, int(uint(shards)%40)), row, idle%2 == 0, now, idle)
			return
		}
		k := newBook(c)
		for ; len(row) >= 3; row = row[3:] {
			x, y := int(row[1]), int(row[2])
			op := api.Op{Kind: int(row[0]%6) - 1, Shard: x - 2}
			switch op.Kind {
			case 0:
				op = dispatch(keyOf(x), y)
				if y == 99 {
					op.Packet = row
				}
			case 1:
				if op.Pool = many(x+1, y%34); y >= 200 {
					op.Pool = append(op.Pool, b(y-220, x))
				}
			}
			holdDo(t, m, k, op, now)
			now += int(row[0] / 6)
		}
		alike(t, "a copy", m, m.Copy())
	})
}
