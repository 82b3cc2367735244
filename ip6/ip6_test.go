package ip6

import (
	"math"
	"slices"
	"strings"
	"testing"

	"gangplank/api"
)

// Addresses, and a head by hand, as Put makes it: UDP, two bytes held.
const (
	from  = "\x20\x01\x0d\xb8\x00\x01\x02\x03\x04\x05\x06\x07\x08\x09\x0a\x0b"
	to    = "\xfe\x80\x00\x00\x00\x00\x00\x00\xff\xee\xdd\xcc\xbb\xaa\x99\x88"
	plain = "\x60\x00\x00\x00\x00\x02\x11\x40" + from + to + "hi"
)

// plainHead is the head that plain begins with.
func plainHead() Head { return Head{Src: from, Dst: to, Proto: 17} }

// edit is s with other bytes from a place on.
func edit(s string, at int, by string) string { return s[:at] + by + s[at+len(by):] }

// two is the two bytes of a number, the greater one first.
func two(n int) string { return string([]byte{byte(n / 256), byte(n % 256)}) }

// asked is Parse told by the chapter's own sentences, byte by byte.
func asked(s string) (h Head, rest string, e api.Errno) {
	if len(s) < 40 {
		return h, rest, api.ErrShort
	}
	if s[0]/16 != 6 {
		return h, rest, api.ErrVersion
	}
	n := int(s[4])*256 + int(s[5])
	if n > len(s)-40 {
		return h, rest, api.ErrLength
	}
	return Head{Src: s[8:24], Dst: s[24:40], Proto: int(s[6])}, s[40 : 40+n], api.OK
}

// parses fails unless Parse tells of s what the chapter's sentences tell, and all else is nought beside an error.
func parses(t *testing.T, s string) {
	t.Helper()
	wh, wr, we := asked(s)
	h, r, e := Parse(s)
	if h != wh || r != wr || e != we {
		t.Fatalf("%d bytes, %.60x: %#v %.20q %v, not %#v %.20q %v", len(s), s, h, r, e, wh, wr, we)
	}
}

// told fails unless Parse tells this error of s, and nought beside it.
func told(t *testing.T, s string, want api.Errno) {
	t.Helper()
	if h, rest, e := Parse(s); e != want || h != (Head{}) || rest != "" {
		t.Errorf("%d bytes, %.60x: %#v %.20q %v, not %v", len(s), s, h, rest, e, want)
	}
}

// holds fails unless Parse tells this head of s, and that it holds rest.
func holds(t *testing.T, s string, want Head, rest string) {
	t.Helper()
	if h, r, e := Parse(s); e != api.OK || h != want || r != rest {
		t.Errorf("%d bytes, %.60x: %#v %.20q %v, not %#v %.20q", len(s), s, h, r, e, want, rest)
	}
}

// refused fails unless Put tells this error, and the empty text.
func refused(t *testing.T, h Head, rest string, want api.Errno) {
	t.Helper()
	if s, e := Put(h, rest); s != "" || e != want {
		t.Errorf("%#v, %d bytes: %d bytes, %v, not %v", h, len(rest), len(s), e, want)
	}
}

// heads tells ordinary heads and those at the edges.
func heads() []Head {
	var hs []Head
	addresses := []string{from, to, strings.Repeat("\x00", 16), strings.Repeat("\xff", 16), "abcdefghijklmnop"}
	for _, src := range addresses {
		for _, dst := range addresses {
			for _, proto := range []int{0, 1, 6, 17, 58, 127, 128, 254, 255} {
				hs = append(hs, Head{Src: src, Dst: dst, Proto: proto})
			}
		}
	}
	return hs
}

// P2: the chapter's example.
func TestExample(t *testing.T) {
	h := Head{Src: strings.Repeat("\x01", 16), Dst: strings.Repeat("\x02", 16), Proto: 6}
	s, e := Put(h, "x")
	if len(s) != 41 || e != api.OK {
		t.Errorf("%x %v", s, e)
	}
	holds(t, s, h, "x")
}

// P2: a head by hand is put byte by byte as the chapter says, and parsed.
func TestByHand(t *testing.T) {
	if s, e := Put(plainHead(), "hi"); s != plain || e != api.OK {
		t.Errorf("%x %v", s, e)
	}
	holds(t, plain, plainHead(), "hi")
}

// P2: each byte of what is put is as the chapter says.
func TestPutByteByByte(t *testing.T) {
	for _, h := range heads() {
		for _, n := range []int{0, 1, 255, 256, 257, 4660, 65534, 65535} {
			rest := strings.Repeat("r", n)
			front := string([]byte{96, 0, 0, 0, byte(n / 256), byte(n % 256), byte(h.Proto), 64})
			if s, e := Put(h, rest); e != api.OK || s != front+h.Src+h.Dst+rest {
				t.Fatalf("%#v, %d bytes: %d bytes, %.40x %v", h, n, len(s), s, e)
			}
		}
	}
}

// P2, P3: what is put is parsed, whatever stands behind it.
func TestPutIsParsed(t *testing.T) {
	for _, h := range heads() {
		for _, rest := range []string{"", "x", "gangplank", plain, strings.Repeat("y", 65535)} {
			s, _ := Put(h, rest)
			for _, back := range []string{"", "\x00", "\xff\xff\xff", plain, strings.Repeat("z", 70000)} {
				holds(t, s+back, h, rest)
			}
		}
	}
}

// P3: what is parsed is put, and parsed again: what is not told of a head, and what stands behind it, is left out.
func TestParsedIsPut(t *testing.T) {
	for _, n := range []int{0, 1, 7, 65534, 65535} {
		for _, back := range []string{"", "behind"} {
			rest := strings.Repeat("r", n)
			s := "\x6a\xbc\xde\xf0" + two(n) + "\x06\x01" + from + to + rest + back
			h, r, e := Parse(s)
			if e != api.OK {
				t.Fatal(n, e)
			}
			again, e := Put(h, r)
			if want := "\x60\x00\x00\x00" + two(n) + "\x06\x40" + from + to + rest; again != want || e != api.OK {
				t.Fatalf("%d: %d bytes, %.40x %v", n, len(again), again, e)
			}
			holds(t, again, Head{Src: from, Dst: to, Proto: 6}, rest)
		}
	}
}

// Errors: less than 40 bytes are short, whatever they are.
func TestShort(t *testing.T) {
	for n := range 40 {
		told(t, plain[:n], api.ErrShort)
		told(t, strings.Repeat("\x00", n), api.ErrShort)
		told(t, strings.Repeat("\x60", n), api.ErrShort)
		told(t, strings.Repeat("\xff", n), api.ErrShort)
	}
	told(t, strings.Repeat("\x00", 40), api.ErrVersion)
	holds(t, edit(plain[:40], 4, "\x00\x00"), plainHead(), "")
}

// Errors: the upper four bits of byte 0 are 6, and nothing else; the lower four are not asked about.
func TestVersion(t *testing.T) {
	for b := range 256 {
		s := edit(plain, 0, string([]byte{byte(b)}))
		if b/16 != 6 {
			told(t, s, api.ErrVersion)
			continue
		}
		holds(t, s, plainHead(), "hi")
	}
}

// Errors: a length above how many bytes stand behind the first 40; as many, less and none are well.
func TestLength(t *testing.T) {
	for _, n := range []int{0, 1, 2, 3, 254, 255, 256, 257, 511, 512} {
		rest := strings.Repeat("abcd", 128)[:n]
		for length := range 1100 {
			s := edit(plain[:40], 4, two(length)) + rest
			if length > n {
				told(t, s, api.ErrLength)
				continue
			}
			holds(t, s, plainHead(), rest[:length])
		}
	}
	long := strings.Repeat("x", 65535)
	all := edit(plain[:40], 4, "\xff\xff")
	holds(t, all+long, plainHead(), long)
	holds(t, all+long+"y", plainHead(), long)
	told(t, all+long[1:], api.ErrLength)
	// With the lesser byte first it would be 1, and 256.
	told(t, edit(plain[:40], 4, "\x01\x00")+"x", api.ErrLength)
	holds(t, edit(plain[:40], 4, "\x00\x01")+"x", plainHead(), "x")
}

// P2: every length that two bytes tell, behind which there is enough.
func TestEveryLength(t *testing.T) {
	long := strings.Repeat("gangplank", 7300)
	for n := range 65536 {
		holds(t, edit(plain[:40], 4, two(n))+long, plainHead(), long[:n])
	}
}

// P2: Proto is byte 6, at all its values.
func TestProto(t *testing.T) {
	for p := range 256 {
		h := Head{Src: from, Dst: to, Proto: p}
		holds(t, edit(plain, 6, string([]byte{byte(p)})), h, "hi")
		if s, e := Put(h, "hi"); e != api.OK || s != edit(plain, 6, string([]byte{byte(p)})) {
			t.Errorf("%d: %x %v", p, s, e)
		}
	}
}

// P2: bytes that the chapter does not ask about tell nothing, at whatever values.
func TestNotAsked(t *testing.T) {
	for b := range 256 {
		x := string([]byte{byte(b)})
		for _, at := range []int{1, 2, 3, 7} {
			holds(t, edit(plain, at, x), plainHead(), "hi")
		}
		holds(t, edit(edit(plain, 1, x+x+x), 7, x), plainHead(), "hi")
		holds(t, plain+x, plainHead(), "hi")
		holds(t, edit(plain, 40, x), plainHead(), x+"i")
	}
}

// P2: each byte of an address stands in its place.
func TestAddresses(t *testing.T) {
	for at := 8; at < 40; at++ {
		for b := range 256 {
			s := edit(plain, at, string([]byte{byte(b)}))
			h := Head{Src: s[8:24], Dst: s[24:40], Proto: 17}
			holds(t, s, h, "hi")
			if put, e := Put(h, "hi"); put != s || e != api.OK {
				t.Fatalf("%x %v, not %x", put, e, s)
			}
		}
	}
}

// Errors, R1: of several errors at once the first is told.
func TestFirstError(t *testing.T) {
	faults := []struct {
		e    api.Errno
		make func(s string) string
	}{
		{api.ErrLength, func(s string) string { return edit(s, 4, "\x00\x03") }},
		{api.ErrVersion, func(s string) string { return edit(s, 0, "\x45") }},
		{api.ErrShort, func(s string) string { return s[:39] }},
	}
	for choice := 1; choice < 1<<len(faults); choice++ {
		s, want := plain, api.OK
		for i, f := range faults {
			if choice>>i&1 == 1 {
				s, want = f.make(s), f.e
			}
		}
		told(t, s, want)
	}
}

// Errors: Src or Dst that have not 16 bytes.
func TestPutAddress(t *testing.T) {
	for n := range 70 {
		a := strings.Repeat("a", n)
		if n == 16 {
			continue
		}
		refused(t, Head{Src: a, Dst: to, Proto: 6}, "", api.ErrArg)
		refused(t, Head{Src: from, Dst: a, Proto: 6}, "", api.ErrArg)
		refused(t, Head{Src: a, Dst: a, Proto: 6}, "x", api.ErrArg)
		refused(t, Head{Src: a, Dst: a, Proto: -1}, "x", api.ErrArg)
	}
	// Of 32 bytes in all, one too many here is one too few there.
	refused(t, Head{Src: from + "a", Dst: to[1:], Proto: 6}, "", api.ErrArg)
	refused(t, Head{Src: from[1:], Dst: to + "a", Proto: 6}, "", api.ErrArg)
	refused(t, Head{Src: from + to, Proto: 6}, "", api.ErrArg)
	refused(t, Head{Dst: from + to, Proto: 6}, "", api.ErrArg)
	refused(t, Head{}, "", api.ErrArg)
}

// Errors: Proto below 0 or above 255.
func TestPutProto(t *testing.T) {
	for _, p := range []int{-1, -2, -250, -256, 256, 257, 262, 65536 + 6, 1<<32 + 6, math.MaxInt, math.MinInt, math.MinInt + 6} {
		refused(t, Head{Src: from, Dst: to, Proto: p}, "", api.ErrArg)
		refused(t, Head{Src: from, Dst: to, Proto: p}, "hi", api.ErrArg)
	}
}

// Errors: a rest of 65535 bytes is put, and of one more is not; a wrong head is told ahead of that.
func TestPutLength(t *testing.T) {
	rest := strings.Repeat("x", 65535)
	s, e := Put(plainHead(), rest)
	if len(s) != 65575 || e != api.OK {
		t.Error(len(s), e)
	}
	holds(t, s, plainHead(), rest)
	for _, more := range []int{1, 2, 40, 65536, 65537, 1 << 20} {
		long := rest + strings.Repeat("x", more)
		refused(t, plainHead(), long, api.ErrLength)
		refused(t, Head{Src: from[1:], Dst: to, Proto: 6}, long, api.ErrArg)
		refused(t, Head{Src: from, Dst: to[1:], Proto: 6}, long, api.ErrArg)
		refused(t, Head{Src: from, Dst: to, Proto: 256}, long, api.ErrArg)
		refused(t, Head{Src: from, Dst: to, Proto: -1}, long, api.ErrArg)
	}
}

// P1, P2: every value of each byte of a head, in whole and cut off.
func TestEachByte(t *testing.T) {
	for at := range len(plain) {
		for b := range 256 {
			s := edit(plain, at, string([]byte{byte(b)}))
			for n := range len(s) + 1 {
				parses(t, s[:n])
			}
		}
	}
}

// Fields are cut one behind the other, and what is left stands last; a text that has less tells none.
func TestCut(t *testing.T) {
	for _, x := range []struct {
		s     string
		sizes []int
		want  []string
		ok    bool
	}{
		{"abcdef", []int{1, 2}, []string{"a", "bc", "def"}, true},
		{"abc", []int{1, 2}, []string{"a", "bc", ""}, true},
		{"ab", []int{1, 2}, nil, false},
		{"", []int{1}, nil, false},
		{"ab", []int{0, 2, 0}, []string{"", "ab", "", ""}, true},
		{"ab", nil, []string{"ab"}, true},
	} {
		if got, ok := cut(x.s, x.sizes...); !slices.Equal(got, x.want) || ok != x.ok {
			t.Errorf("%q %v: %q %v", x.s, x.sizes, got, ok)
		}
	}
}

// P1 to P3 at texts and heads that a fuzzer makes up; as a plain test at these seeds.
func FuzzIp6(f *testing.F) {
	f.Add(plain, from, to, 17, "rest")
	f.Add("", "", "", 0, "")
	f.Add(plain[:39], from, to[1:], 256, "x")
	f.Add("\x6f\xff\xff\xff\xff\xff\xff\xff"+from+to, to, from, -1, "x")
	f.Fuzz(func(t *testing.T, s, src, dst string, proto int, rest string) {
		parses(t, s)
		if len(s) >= 40 {
			parses(t, edit(s, 0, "\x60"))
			parses(t, edit(edit(s, 0, "\x6c"), 4, two(min(65535, len(s)-40))))
		}
		h := Head{Src: src, Dst: dst, Proto: proto}
		put, e := Put(h, rest)
		switch {
		case len(src) != 16 || len(dst) != 16 || proto < 0 || proto > 255:
			if put != "" || e != api.ErrArg {
				t.Fatal(h, len(put), e)
			}
		case len(rest) > 65535:
			if put != "" || e != api.ErrLength {
				t.Fatal(h, len(put), e)
			}
		default:
			holds(t, put+s, h, rest)
		}
	})
}
