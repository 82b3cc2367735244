package ip4

import (
	"math"
	"strings"
	"testing"

	"gangplank/api"
	"gangplank/sum"
)

// plain is a head without options, as Put makes it: 10.0.0.1 to 10.0.0.2, UDP, two bytes held.
const plain = "\x45\x00\x00\x16\x00\x00\x40\x00\x40\x11\x26\xd5\x0a\x00\x00\x01\x0a\x00\x00\x02hi"

// edit is s with other bytes from a place on.
func edit(s string, at int, by string) string { return s[:at] + by + s[at+len(by):] }

// seal is s with the sum of its first bytes, as many as size, put right.
func seal(s string, size int) string {
	x := sum.Sum(edit(s[:size], 10, "\x00\x00"))
	return edit(s, 10, string([]byte{byte(x >> 8), byte(x)}))
}

// asked is Parse told by the chapter's own sentences, byte by byte.
func asked(s string) (h Head, rest string, e api.Errno) {
	if len(s) < 20 {
		return h, rest, api.ErrShort
	}
	if s[0]/16 != 4 {
		return h, rest, api.ErrVersion
	}
	size, length := int(s[0]%16)*4, int(s[2])*256+int(s[3])
	if size < 20 || size > len(s) || length < size || length > len(s) {
		return h, rest, api.ErrLength
	}
	total := 0
	for i := 0; i < size; i += 2 {
		total += int(s[i])*256 + int(s[i+1])
	}
	if total%65535 != 0 {
		return h, rest, api.ErrSum
	}
	if int(s[6])%64 != 0 || s[7] != 0 {
		return h, rest, api.ErrFragment
	}
	return Head{Src: s[12:16], Dst: s[16:20], Proto: int(s[9])}, s[size:length], api.OK
}

// parses fails unless Parse tells of s what the chapter's sentences tell, and all else is nought beside an error.
func parses(t *testing.T, s string) {
	t.Helper()
	wh, wr, we := asked(s)
	h, r, e := Parse(s)
	if h != wh || r != wr || e != we {
		t.Fatalf("%d bytes, %.60x: %#v %.20q %v, not %#v %.20q %v", len(s), s, h, r, e, wh, wr, we)
	}
}

// told fails unless Parse tells this error of s, and nought beside it.
func told(t *testing.T, s string, want api.Errno) {
	t.Helper()
	if h, rest, e := Parse(s); e != want || h != (Head{}) || rest != "" {
		t.Errorf("%d bytes, %.60x: %#v %.20q %v, not %v", len(s), s, h, rest, e, want)
	}
}

// holds fails unless Parse tells this head of s, and that it holds rest.
func holds(t *testing.T, s string, want Head, rest string) {
	t.Helper()
	if h, r, e := Parse(s); e != api.OK || h != want || r != rest {
		t.Errorf("%d bytes, %.60x: %#v %.20q %v, not %#v %.20q", len(s), s, h, r, e, want, rest)
	}
}

// heads tells ordinary heads and those at the edges.
func heads() []Head {
	var hs []Head
	for _, src := range []string{"\x01\x02\x03\x04", "\x00\x00\x00\x00", "\xff\xff\xff\xff", "\x7f\x00\x00\x01", "abcd"} {
		for _, dst := range []string{"\x05\x06\x07\x08", "\x00\x00\x00\x00", "\xff\xff\xff\xff", "\xe0\x00\x00\xfb"} {
			for _, proto := range []int{0, 1, 6, 17, 127, 128, 254, 255} {
				hs = append(hs, Head{Src: src, Dst: dst, Proto: proto})
			}
		}
	}
	return hs
}

// P2: the chapter's example.
func TestExample(t *testing.T) {
	h := Head{Src: "\x01\x02\x03\x04", Dst: "\x05\x06\x07\x08", Proto: 17}
	s, e := Put(h, "")
	if len(s) != 20 || e != api.OK {
		t.Errorf("%x %v", s, e)
	}
	holds(t, s, h, "")
}

// P2: a head by hand is put byte by byte as the chapter says, and parsed.
func TestByHand(t *testing.T) {
	h := Head{Src: "\x0a\x00\x00\x01", Dst: "\x0a\x00\x00\x02", Proto: 17}
	if s, e := Put(h, "hi"); s != plain || e != api.OK {
		t.Errorf("%x %v", s, e)
	}
	holds(t, plain, h, "hi")
}

// P2: each byte of what is put is as the chapter says; the two of the sum are those that make it good.
func TestPutByteByByte(t *testing.T) {
	for _, h := range heads() {
		for _, rest := range []string{"", "x", "gangplank", strings.Repeat("\xff", 236), strings.Repeat("y", 65515)} {
			s, e := Put(h, rest)
			n := 20 + len(rest)
			if e != api.OK || len(s) != n || s[20:] != rest {
				t.Fatal(h, len(rest), len(s), e)
			}
			front := []byte{69, 0, byte(n >> 8), byte(n), 0, 0, 64, 0, 64, byte(h.Proto)}
			if s[:10] != string(front) || s[12:16] != h.Src || s[16:20] != h.Dst {
				t.Fatalf("%v: %x", h, s[:20])
			}
			if x := sum.Sum(edit(s[:20], 10, "\x00\x00")); int(s[10])<<8|int(s[11]) != x || !sum.Good(s[:20]) {
				t.Fatalf("%v: %x, sum %d", h, s[:20], x)
			}
		}
	}
}

// P3: what is put is parsed, whatever stands behind it.
func TestPutIsParsed(t *testing.T) {
	for _, h := range heads() {
		for _, rest := range []string{"", "x", "gangplank", plain, strings.Repeat("y", 65515)} {
			s, _ := Put(h, rest)
			for _, behind := range []string{"", "\x00", "\xff\xff\xff", plain, strings.Repeat("z", 70000)} {
				holds(t, s+behind, h, rest)
			}
		}
	}
}

// P3: what is parsed is put, and parsed again: options, and what is not told of a head, are left out.
func TestParsedIsPut(t *testing.T) {
	for size := 20; size <= 60; size += 4 {
		for _, n := range []int{0, 1, 7, 65535 - size} {
			length := size + n
			s := string([]byte{0x40 | byte(size/4), 0xb8, byte(length >> 8), byte(length), 0x12, 0x34, 0xc0, 0, 1, 6, 0, 0}) + "abcdefgh" + strings.Repeat("\x01", size-20)
			s = seal(s, size) + strings.Repeat("r", n)
			h, rest, e := Parse(s)
			if e != api.OK || len(rest) != n {
				t.Fatal(size, n, len(rest), e)
			}
			again, e := Put(h, rest)
			if e != api.OK {
				t.Fatal(size, n, e)
			}
			holds(t, again, Head{Src: "abcd", Dst: "efgh", Proto: 6}, strings.Repeat("r", n))
		}
	}
}

// Errors: less than 20 bytes are short, whatever they are.
func TestShort(t *testing.T) {
	for n := range 20 {
		told(t, plain[:n], api.ErrShort)
		told(t, strings.Repeat("\x00", n), api.ErrShort)
		told(t, strings.Repeat("\xff", n), api.ErrShort)
	}
	told(t, strings.Repeat("\x00", 20), api.ErrVersion)
}

// Errors: the upper four bits of byte 0 are 4, and nothing else.
func TestVersion(t *testing.T) {
	for v := range 16 {
		s := seal(edit(plain, 0, string([]byte{byte(v<<4 | 5)})), 20)
		if v != 4 {
			told(t, s, api.ErrVersion)
			continue
		}
		holds(t, s, Head{Src: "\x0a\x00\x00\x01", Dst: "\x0a\x00\x00\x02", Proto: 17}, "hi")
	}
}

// Errors: a size below 20, or above how many bytes there are.
func TestSize(t *testing.T) {
	for words := range 16 {
		size := words * 4
		for n := 20; n <= 64; n++ {
			s := edit(strings.Repeat("\x00", n), 0, string([]byte{0x40 | byte(words), 0, 0, byte(n)}))
			if size < 20 || size > n {
				told(t, s, api.ErrLength)
				continue
			}
			holds(t, seal(s, size), Head{Src: "\x00\x00\x00\x00", Dst: "\x00\x00\x00\x00"}, s[size:])
		}
	}
}

// Errors: a length below the size, or above how many bytes there are; at both edges all is well.
func TestLength(t *testing.T) {
	for size := 20; size <= 60; size += 4 {
		for n := size; n <= size+3; n++ {
			for length := range n + 300 {
				s := edit(strings.Repeat("\x00", n), 0, string([]byte{0x40 | byte(size/4), 0, byte(length >> 8), byte(length)}))
				s = seal(s, size)
				if length < size || length > n {
					told(t, s, api.ErrLength)
					continue
				}
				holds(t, s, Head{Src: "\x00\x00\x00\x00", Dst: "\x00\x00\x00\x00"}, s[size:length])
			}
		}
	}
	long := edit(strings.Repeat("\x00", 65535), 0, "\x45\x00\xff\xff")
	holds(t, seal(long, 20), Head{Src: "\x00\x00\x00\x00", Dst: "\x00\x00\x00\x00"}, long[20:])
	told(t, seal(long[:65534], 20), api.ErrLength)
}

// P2: a head with options is summed with them, and what it holds stands behind them.
func TestOptions(t *testing.T) {
	s := seal("\x46\x07\x00\x19\x12\x34\xc0\x00\x01\x11\x00\x00\x01\x02\x03\x04\x05\x06\x07\x08\x01\x01\x01\x00x", 24)
	holds(t, s, Head{Src: "\x01\x02\x03\x04", Dst: "\x05\x06\x07\x08", Proto: 17}, "x")
	told(t, edit(s, 20, "\x02"), api.ErrSum)
	told(t, edit(s, 23, "\x01"), api.ErrSum)
	told(t, seal(s, 20), api.ErrSum)
	// What stands behind the head is no part of its sum.
	holds(t, edit(s, 24, "y"), Head{Src: "\x01\x02\x03\x04", Dst: "\x05\x06\x07\x08", Proto: 17}, "y")
}

// P2: another word in a head is found out; 0 and 65535 alone tell the same to a sum.
func TestOtherWordIsFoundOut(t *testing.T) {
	for _, h := range []Head{{Src: "\x01\x02\x03\x04", Dst: "\x05\x06\x07\x08", Proto: 17}, {Src: "\x00\x00\xff\xff", Dst: "\xff\xff\x00\x00", Proto: 0}} {
		s, _ := Put(h, "hi")
		for at := 0; at < 20; at += 2 {
			old := int(s[at])<<8 | int(s[at+1])
			for w := range 65536 {
				r := edit(s, at, string([]byte{byte(w >> 8), byte(w)}))
				parses(t, r)
				if _, _, e := Parse(r); w%65535 != old%65535 && e == api.OK {
					t.Fatalf("%x at %d: %d instead of %d", s, at, w, old)
				}
			}
		}
	}
}

// Errors: each of the bits of bytes 6 and 7 tells of a fragment, but the upper two.
func TestFragment(t *testing.T) {
	for w := range 65536 {
		s := seal(edit(plain, 6, string([]byte{byte(w >> 8), byte(w)})), 20)
		if w&0x3fff != 0 {
			told(t, s, api.ErrFragment)
			continue
		}
		holds(t, s, Head{Src: "\x0a\x00\x00\x01", Dst: "\x0a\x00\x00\x02", Proto: 17}, "hi")
	}
}

// Errors, R1: of several errors at once the first is told.
func TestFirstError(t *testing.T) {
	faults := []struct {
		e    api.Errno
		make func(s string) string
	}{
		{api.ErrFragment, func(s string) string { return edit(s, 6, "\x20") }},
		{api.ErrSum, func(s string) string { return edit(s, 4, "\x01") }},
		{api.ErrLength, func(s string) string { return edit(s, 2, "\x00\x13") }},
		{api.ErrVersion, func(s string) string { return edit(s, 0, "\x65") }},
		{api.ErrShort, func(s string) string { return s[:19] }},
	}
	// Each of them alone, with all pairs, and all choices of more.
	for choice := 1; choice < 1<<len(faults); choice++ {
		s, want := plain, api.OK
		for i, f := range faults {
			if choice>>i&1 == 1 {
				s, want = f.make(s), f.e
			}
			if f.e == api.ErrFragment {
				s = seal(s, 20)
			}
		}
		told(t, s, want)
	}
	// A size of 60 in 20 bytes is wrong ahead of a sum that can't be asked.
	told(t, edit(plain[:20], 0, "\x4f\x00\xff\xff"), api.ErrLength)
	told(t, edit(plain, 0, "\x40\x00\x00\x00"), api.ErrLength)
}

// Errors: Src or Dst that have not 4 bytes, Proto below 0 or above 255.
func TestPutArg(t *testing.T) {
	good := Head{Src: "abcd", Dst: "efgh", Proto: 6}
	for _, a := range []string{"", "a", "abc", "abcde", "abcdefgh", "abcdefghijklmnop", strings.Repeat("a", 1000)} {
		for _, h := range []Head{{Src: a, Dst: good.Dst, Proto: 6}, {Src: good.Src, Dst: a, Proto: 6}, {Src: a, Dst: a, Proto: 6}, {Src: a, Dst: a, Proto: -1}} {
			refused(t, h, "", api.ErrArg)
		}
	}
	for _, p := range []int{-1, -2, -256, 256, 257, 262, 65536 + 6, math.MaxInt, math.MinInt} {
		refused(t, Head{Src: good.Src, Dst: good.Dst, Proto: p}, "x", api.ErrArg)
	}
	for p := range 256 {
		h := Head{Src: good.Src, Dst: good.Dst, Proto: p}
		s, e := Put(h, "x")
		if e != api.OK {
			t.Error(p, e)
		}
		holds(t, s, h, "x")
	}
}

// Errors: a rest of 65515 bytes is put, and of one more is not; a wrong head is told ahead of that.
func TestPutLength(t *testing.T) {
	h := Head{Src: "abcd", Dst: "efgh", Proto: 6}
	rest := strings.Repeat("x", 65515)
	if s, e := Put(h, rest); len(s) != 65535 || e != api.OK {
		t.Error(len(s), e)
	}
	for _, more := range []int{1, 2, 20, 21, 65536, 1 << 20} {
		refused(t, h, rest+strings.Repeat("x", more), api.ErrLength)
		refused(t, Head{Src: "abc", Dst: "efgh", Proto: 6}, rest+strings.Repeat("x", more), api.ErrArg)
		refused(t, Head{Src: "abcd", Dst: "efgh", Proto: 256}, rest+strings.Repeat("x", more), api.ErrArg)
	}
}

// refused fails unless Put tells this error, and the empty text.
func refused(t *testing.T, h Head, rest string, want api.Errno) {
	t.Helper()
	if s, e := Put(h, rest); s != "" || e != want {
		t.Errorf("%#v, %d bytes: %d bytes, %v, not %v", h, len(rest), len(s), e, want)
	}
}

// P1, P2: every value of each byte of a head, sealed and as it is, in whole and cut off.
func TestEachByte(t *testing.T) {
	for at := range len(plain) {
		for b := range 256 {
			s := edit(plain, at, string([]byte{byte(b)}))
			parses(t, s)
			parses(t, seal(s, 20))
			for n := range len(s) {
				parses(t, s[:n])
			}
		}
	}
}

// Faults behind the first one that is so are not asked; without any there is none.
func TestFirst(t *testing.T) {
	asked := ""
	row := func(e api.Errno, name string, so bool) fault {
		return fault{e, func() bool { asked += name; return so }}
	}
	if e := first(row(1, "a", false), row(2, "b", true), row(3, "c", true)); e != 2 || asked != "ab" {
		t.Error(e, asked)
	}
	if e := first(row(1, "d", false)); e != api.OK {
		t.Error(e)
	}
	if e := first(); e != api.OK {
		t.Error(e)
	}
}

// P1 to P3 at texts and heads that a fuzzer makes up; as a plain test at these seeds.
func FuzzIp4(f *testing.F) {
	f.Add(plain, "\x01\x02\x03\x04", "\x05\x06\x07\x08", 17, "rest")
	f.Add("", "", "", 0, "")
	f.Add("\x4f"+strings.Repeat("\x00", 59), "abcd", "abcd", 256, "x")
	f.Add("\x46\x00\x00\x18\x00\x00\x00\x00\x40\x06\x00\x00abcdefghijkl", "abcd", "abc", -1, "x")
	f.Fuzz(func(t *testing.T, s, src, dst string, proto int, rest string) {
		parses(t, s)
		if len(s) >= 20 {
			parses(t, seal(s, 20))
			if size := int(s[0]%16) * 4; size >= 20 && size <= len(s) {
				parses(t, seal(s, size))
			}
		}
		h := Head{Src: src, Dst: dst, Proto: proto}
		put, e := Put(h, rest)
		switch {
		case len(src) != 4 || len(dst) != 4 || proto < 0 || proto > 255:
			if put != "" || e != api.ErrArg {
				t.Fatal(h, len(put), e)
			}
		case len(rest) > 65515:
			if put != "" || e != api.ErrLength {
				t.Fatal(h, len(put), e)
			}
		default:
			holds(t, put+s, h, rest)
		}
	})
}
