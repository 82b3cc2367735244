package fnv

import (
	library "hash/fnv"
	"math"
	"math/big"
	"strings"
	"testing"
)

// hashes tells hashes at the edges, such as have upper bits set, and each bit alone.
func hashes() []uint64 {
	hs := []uint64{0, 1, 0xff, 0x100, Basis, Prime, 1<<32 - 1, 1 << 32, 1<<63 - 1, 1 << 63, math.MaxUint64 - 1, math.MaxUint64, 0xff00000000000000, 0xffffffffffffff00, 0x0102030405060708, 0xf1e2d3c4b5a69788}
	for i := range 64 {
		hs = append(hs, 1<<i, math.MaxUint64<<i, math.MaxUint64>>i)
	}
	return hs
}

// texts tells ordinary texts, the empty one, all bytes, noughts, runes of more bytes, and bytes that are no rune.
func texts() []string {
	all := make([]byte, 256)
	for i := range all {
		all[i] = byte(i)
	}
	return []string{"", "a", "b", "foobar", "\x00", "\x00\x00", "\xff", "\x80\xfe\xff", "é€😀", "\xe2\x82", "a\x00b", string(all), strings.Repeat("gangplank", 500)}
}

// on is one byte on, told by numbers that never go round.
func on(h uint64, b byte) uint64 {
	low := new(big.Int).SetUint64(h & 0xff)
	high := new(big.Int).SetUint64(h &^ 0xff)
	x := new(big.Int).Xor(low, big.NewInt(int64(b)))
	x.Add(x, high).Mul(x, big.NewInt(1099511628211))
	return x.Mod(x, new(big.Int).Lsh(big.NewInt(1), 64)).Uint64()
}

// P2: the chapter's numbers and examples.
func TestExamples(t *testing.T) {
	if Basis != 14695981039346656037 || Prime != 1099511628211 {
		t.Error(Basis, Prime)
	}
	if h := Sum(""); h != Basis {
		t.Error(h)
	}
	if h := Sum("a"); h != 12638187200555641996 {
		t.Error(h)
	}
}

// P2: hashes of FNV-1a as others tell them.
func TestSumAsElsewhere(t *testing.T) {
	for s, want := range map[string]uint64{"b": 0xaf63df4c8601f1a5, "fo": 0x08985907b541d342, "foo": 0xdcb27518fed9d577, "foob": 0xdd120e790c2512af, "fooba": 0xcac165afa2fef40a, "foobar": 0x85944171f73967e8, "\x00": 0xaf63bd4c8601b7df} {
		if h := Sum(s); h != want {
			t.Errorf("%q: %x", s, h)
		}
	}
	for _, s := range texts() {
		w := library.New64a()
		w.Write([]byte(s))
		if h := Sum(s); h != w.Sum64() {
			t.Errorf("%q: %x, not %x", s, h, w.Sum64())
		}
	}
}

// P1, P2: each byte, at hashes whose products go round and at such as do not.
func TestNextAtAllBytes(t *testing.T) {
	for _, h := range hashes() {
		for b := range 256 {
			if x := Next(h, byte(b)); x != on(h, byte(b)) {
				t.Errorf("%x %x: %x", h, b, x)
			}
		}
	}
}

// P2: the byte is xor'ed first, into the lowest eight bits alone.
func TestNextByHand(t *testing.T) {
	for _, c := range []struct {
		h    uint64
		b    byte
		want uint64
	}{
		{0, 0, 0},
		{0, 1, Prime},
		{1, 0, Prime},
		{1, 1, 0},
		{0xff, 0xff, 0},
		{0xff, 0xfe, Prime},
		{0x100, 0, 0x100000001b300},
		{0x101, 1, 0x100000001b300},
		{1 << 63, 0, 1 << 63},
		{math.MaxUint64, 0, math.MaxUint64 - Prime + 1},
	} {
		if x := Next(c.h, c.b); x != c.want {
			t.Errorf("%x %x: %x, not %x", c.h, c.b, x, c.want)
		}
	}
}

// P1, P2: Join is Next of the bytes, one by one, in order; Sum begins with Basis.
func TestJoinIsNextOneByOne(t *testing.T) {
	for _, s := range texts() {
		for _, h := range hashes() {
			want := h
			for i := 0; i < len(s); i++ {
				want = Next(want, s[i])
			}
			if x := Join(h, s); x != want {
				t.Errorf("%x %q: %x, not %x", h, s, x, want)
			}
		}
		if Sum(s) != Join(Basis, s) {
			t.Errorf("%q: %x", s, Sum(s))
		}
	}
	if Join(5, "ab") == Join(5, "ba") {
		t.Error("order")
	}
}

// P2: the empty text leaves each hash as it is.
func TestJoinOfEmptyText(t *testing.T) {
	for _, h := range hashes() {
		if x := Join(h, ""); x != h {
			t.Errorf("%x: %x", h, x)
		}
	}
}

// P2: a hash goes on where it stopped, wherever that was.
func TestGoesOn(t *testing.T) {
	for _, s := range texts() {
		for i := 0; i <= len(s); i++ {
			if x := Join(Sum(s[:i]), s[i:]); x != Sum(s) {
				t.Errorf("%q at %d: %x", s, i, x)
			}
			if x := Join(Join(math.MaxUint64, s[:i]), s[i:]); x != Join(math.MaxUint64, s) {
				t.Errorf("%q at %d: %x", s, i, x)
			}
		}
	}
}

// P2: unlike hashes stay unlike: from what is told, and the bytes, the way back leads to the hash before.
func TestUnlikeStayUnlike(t *testing.T) {
	back := new(big.Int).ModInverse(new(big.Int).SetUint64(Prime), new(big.Int).Lsh(big.NewInt(1), 64)).Uint64()
	for _, s := range texts() {
		seen := map[uint64]uint64{}
		for _, h := range hashes() {
			x := Join(h, s)
			if o, ok := seen[x]; ok && o != h {
				t.Errorf("%q: %x and %x", s, o, h)
			}
			seen[x] = h
			for i := len(s) - 1; i >= 0; i-- {
				x = x*back ^ uint64(s[i])
			}
			if x != h {
				t.Errorf("%q: %x leads back to %x", s, h, x)
			}
		}
	}
}

// P2: the same hash goes apart behind unlike bytes.
func TestBytesTellApart(t *testing.T) {
	for _, h := range hashes() {
		seen := map[uint64]bool{}
		for b := range 256 {
			seen[Next(h, byte(b))] = true
		}
		if len(seen) != 256 {
			t.Errorf("%x: %d", h, len(seen))
		}
	}
}

// Bytes are told no further than they are asked for.
func TestOctetsStop(t *testing.T) {
	var got []byte
	for b := range octets("\xe2\x82\xac\x00z") {
		if got = append(got, b); b == 0xac {
			break
		}
	}
	if string(got) != "\xe2\x82\xac" {
		t.Errorf("%x", got)
	}
}

// P1, P2 at arguments that a fuzzer makes up; as a plain test at these seeds.
func FuzzFnv(f *testing.F) {
	f.Add(uint64(0), uint64(1), "", "")
	f.Add(Basis, Prime, "foo", "bar")
	f.Add(uint64(math.MaxUint64), uint64(1<<63), "\x00\xff", "é\x80")
	f.Fuzz(func(t *testing.T, g, h uint64, s, r string) {
		want := h
		for i := 0; i < len(s); i++ {
			want = on(want, s[i])
		}
		x := Join(h, s)
		if x != want {
			t.Errorf("Join %x %q: %x, not %x", h, s, x, want)
		}
		if Join(x, r) != Join(h, s+r) {
			t.Errorf("Join %x %q %q", h, s, r)
		}
		if (Join(g, s) == x) != (g == h) {
			t.Errorf("Join %x %x %q", g, h, s)
		}
		w := library.New64a()
		w.Write([]byte(s))
		if Sum(s) != w.Sum64() {
			t.Errorf("Sum %q: %x", s, Sum(s))
		}
	})
}
