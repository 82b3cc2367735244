package port

import (
	"math"
	"strings"
	"testing"

	"gangplank/api"
)

// Texts by hand: bytes that the chapter does not ask about are not 0 in them.
const (
	stream = "\x12\x34\x00\x50\xa1\xa2\xa3\xa4\xb1\xb2\xb3\xb4\x50\x12\xc1\xc2\xd1\xd2\xe1\xe2"
	single = "\x12\x34\x00\x35\x00\x08\xf1\xf2"
)

// edit is s with other bytes from a place on.
func edit(s string, at int, by string) string { return s[:at] + by + s[at+len(by):] }

// one is the byte of a number.
func one(n int) string { return string([]byte{byte(n)}) }

// two is the two bytes of a number, the greater one first.
func two(n int) string { return string([]byte{byte(n / 256), byte(n % 256)}) }

// asked is Parse told by the chapter's own sentences, byte by byte.
func asked(proto int, s string) (h Head, e api.Errno) {
	if proto != 6 && proto != 17 {
		return h, api.ErrProto
	}
	if proto == 6 && len(s) < 20 || len(s) < 8 {
		return h, api.ErrShort
	}
	if proto == 6 && (int(s[12]/16)*4 < 20 || int(s[12]/16)*4 > len(s)) {
		return h, api.ErrOffset
	}
	if n := int(s[4])*256 + int(s[5]); proto == 17 && (n < 8 || n > len(s)) {
		return h, api.ErrLength
	}
	h = Head{From: int(s[0])*256 + int(s[1]), To: int(s[2])*256 + int(s[3])}
	if proto == 6 {
		h.Flags = int(s[13])
	}
	return h, api.OK
}

// parses fails unless Parse tells of s what the chapter's sentences tell.
func parses(t *testing.T, proto int, s string) {
	t.Helper()
	wh, we := asked(proto, s)
	if h, e := Parse(proto, s); h != wh || e != we {
		t.Fatalf("%d, %d bytes, %.40x: %v %v, not %v %v", proto, len(s), s, h, e, wh, we)
	}
}

// told fails unless Parse tells this error of s, and a zero head.
func told(t *testing.T, proto int, s string, want api.Errno) {
	t.Helper()
	if h, e := Parse(proto, s); e != want || h != (Head{}) {
		t.Errorf("%d, %d bytes, %.40x: %v %v, not %v", proto, len(s), s, h, e, want)
	}
}

// holds fails unless Parse tells this head of s.
func holds(t *testing.T, proto int, s string, want Head) {
	t.Helper()
	if h, e := Parse(proto, s); e != api.OK || h != want {
		t.Errorf("%d, %d bytes, %.40x: %v %v, not %v", proto, len(s), s, h, e, want)
	}
}

// puts fails unless Put tells just these bytes.
func puts(t *testing.T, proto int, h Head, want string) {
	t.Helper()
	if s, e := Put(proto, h); s != want || e != api.OK {
		t.Errorf("%d %v: %x %v, not %x", proto, h, s, e, want)
	}
}

// refused fails unless Put tells this error, and the empty text.
func refused(t *testing.T, proto int, h Head, want api.Errno) {
	t.Helper()
	if s, e := Put(proto, h); s != "" || e != want {
		t.Errorf("%d %v: %x %v, not %v", proto, h, s, e, want)
	}
}

// bytesOf is what the chapter says that Put makes of a head.
func bytesOf(proto int, h Head) string {
	if proto == 17 {
		return two(h.From) + two(h.To) + "\x00\x08\x00\x00"
	}
	return two(h.From) + two(h.To) + strings.Repeat("\x00", 8) + "\x50" + one(h.Flags) + strings.Repeat("\x00", 6)
}

// ports tells ordinary ports and those at the edges.
func ports() []int { return []int{0, 1, 80, 255, 256, 257, 4660, 32767, 32768, 65280, 65534, 65535} }

// strangers tells numbers of protocols that are neither, some of which have the lower bits of one that is.
func strangers() []int {
	var ns []int
	for n := -300; n <= 600; n++ {
		if n != 6 && n != 17 {
			ns = append(ns, n)
		}
	}
	return append(ns, 1<<16+6, 1<<16+17, 1<<32+6, 1<<32+17, math.MinInt, math.MinInt+6, math.MinInt+17, math.MaxInt)
}

// P2: the chapter's example.
func TestExample(t *testing.T) {
	puts(t, 17, Head{From: 1, To: 2}, "\x00\x01\x00\x02\x00\x08\x00\x00")
	holds(t, 17, "\x00\x01\x00\x02\x00\x08\x00\x00", Head{From: 1, To: 2})
}

// P2: texts by hand are parsed, and put byte by byte as the chapter says.
func TestByHand(t *testing.T) {
	holds(t, 6, stream, Head{From: 0x1234, To: 80, Flags: api.Syn | api.Ack})
	holds(t, 17, single, Head{From: 0x1234, To: 53})
	puts(t, 6, Head{From: 0x1234, To: 80, Flags: 18}, "\x12\x34\x00\x50\x00\x00\x00\x00\x00\x00\x00\x00\x50\x12\x00\x00\x00\x00\x00\x00")
	puts(t, 17, Head{From: 0x1234, To: 53}, "\x12\x34\x00\x35\x00\x08\x00\x00")
}

// P2, P3: every port in either place, and every flag, is put byte by byte and parsed, whatever stands behind it.
func TestPutIsParsed(t *testing.T) {
	behind := []string{"", "\x00", "\xff", "gangplank", stream, single, strings.Repeat("z", 300)}
	check := func(proto int, h Head) {
		t.Helper()
		s, e := Put(proto, h)
		if s != bytesOf(proto, h) || e != api.OK {
			t.Fatalf("%d %v: %x %v", proto, h, s, e)
		}
		for _, back := range behind {
			holds(t, proto, s+back, h)
		}
	}
	for _, from := range ports() {
		for _, to := range ports() {
			check(17, Head{From: from, To: to})
			for flags := range 256 {
				check(6, Head{From: from, To: to, Flags: flags})
			}
		}
	}
	behind = behind[:2]
	for p := range 65536 {
		for _, proto := range []int{6, 17} {
			check(proto, Head{From: p, To: 7})
			check(proto, Head{From: 7, To: p})
		}
	}
}

// P3: what is parsed is put, and parsed again: what is not told of a head is left out.
func TestParsedIsPut(t *testing.T) {
	for proto, s := range map[int]string{
		6:  edit(stream, 12, "\xf0\x1d") + strings.Repeat("o", 40) + "data",
		17: edit(single, 4, "\x00\x0c") + "data",
	} {
		h, e := Parse(proto, s)
		if e != api.OK {
			t.Fatal(proto, e)
		}
		again, e := Put(proto, h)
		if e != api.OK || again != bytesOf(proto, h) {
			t.Fatalf("%d: %x %v", proto, again, e)
		}
		holds(t, proto, again, h)
	}
}

// Errors: a protocol that is neither, ahead of whatever else is so.
func TestProto(t *testing.T) {
	for _, proto := range strangers() {
		for _, s := range []string{"", "x", single, stream, edit(stream, 12, "\x00"), edit(single, 4, "\xff\xff")} {
			told(t, proto, s, api.ErrProto)
		}
		for _, h := range []Head{{}, {From: 1, To: 2}, {From: -1}, {To: 65536}, {Flags: -1}, {Flags: 256}} {
			refused(t, proto, h, api.ErrProto)
		}
	}
}

// Errors: less than 20 bytes of 6 and less than 8 of 17 are short, whatever they are.
func TestShort(t *testing.T) {
	for proto, least := range map[int]int{6: 20, 17: 8} {
		for n := range least {
			told(t, proto, stream[:n], api.ErrShort)
			for _, b := range []string{"\x00", "\x08", "\x50", "\xff"} {
				told(t, proto, strings.Repeat(b, n), api.ErrShort)
			}
		}
	}
	told(t, 6, strings.Repeat("\x00", 20), api.ErrOffset)
	told(t, 17, strings.Repeat("\x00", 8), api.ErrLength)
	holds(t, 17, single, Head{From: 0x1234, To: 53})
	holds(t, 6, stream, Head{From: 0x1234, To: 80, Flags: 18})
}

// Errors: the upper four bits of byte 12, times 4, are from 20 to how many bytes the text has; the lower four are not asked about.
func TestOffset(t *testing.T) {
	for b := range 256 {
		for n := 20; n <= 70; n++ {
			s := edit(stream, 12, one(b)) + strings.Repeat("\xee", n-20)
			if size := b / 16 * 4; size < 20 || size > n {
				told(t, 6, s, api.ErrOffset)
				continue
			}
			holds(t, 6, s, Head{From: 0x1234, To: 80, Flags: 18})
		}
	}
	// The edges by hand: 16, 20, 24 of 23, of 24, and 60 of 59, of 60.
	told(t, 6, edit(stream, 12, "\x4f"), api.ErrOffset)
	holds(t, 6, edit(stream, 12, "\x5f"), Head{From: 0x1234, To: 80, Flags: 18})
	told(t, 6, edit(stream, 12, "\x60")+"abc", api.ErrOffset)
	holds(t, 6, edit(stream, 12, "\x60")+"abcd", Head{From: 0x1234, To: 80, Flags: 18})
	told(t, 6, edit(stream, 12, "\xf0")+strings.Repeat("o", 39), api.ErrOffset)
	holds(t, 6, edit(stream, 12, "\xf0")+strings.Repeat("o", 40), Head{From: 0x1234, To: 80, Flags: 18})
}

// Errors: the number of bytes 4 and 5 is from 8 to how many bytes the text has.
func TestLength(t *testing.T) {
	for _, n := range []int{8, 9, 10, 20, 254, 255, 256, 257, 511, 512, 2056} {
		for length := range 2100 {
			s := edit(single, 4, two(length)) + strings.Repeat("\xee", n-8)
			if length < 8 || length > n {
				told(t, 17, s, api.ErrLength)
				continue
			}
			holds(t, 17, s, Head{From: 0x1234, To: 53})
		}
	}
	// The edges by hand: 7, 8, just as many, and one more.
	told(t, 17, edit(single, 4, "\x00\x07")+"data", api.ErrLength)
	holds(t, 17, edit(single, 4, "\x00\x08")+"data", Head{From: 0x1234, To: 53})
	holds(t, 17, edit(single, 4, "\x00\x0c")+"data", Head{From: 0x1234, To: 53})
	told(t, 17, edit(single, 4, "\x00\x0d")+"data", api.ErrLength)
	// With the lesser byte first it would be 8.
	told(t, 17, edit(single, 4, "\x08\x00")+"data", api.ErrLength)
}

// Errors: the greatest length that two bytes tell, at a text that is as long, one less and one more.
func TestLongest(t *testing.T) {
	all := edit(single, 4, "\xff\xff")
	told(t, 17, all+strings.Repeat("x", 65526), api.ErrLength)
	holds(t, 17, all+strings.Repeat("x", 65527), Head{From: 0x1234, To: 53})
	holds(t, 17, all+strings.Repeat("x", 65528), Head{From: 0x1234, To: 53})
	for length := range 65536 {
		parses(t, 17, edit(single, 4, two(length))+strings.Repeat("x", 3000))
	}
}

// P2: each protocol asks only for its own: what tells an error in one tells none in the other.
func TestEachItsOwn(t *testing.T) {
	h := Head{From: 0x1234, To: 80}
	holds(t, 17, edit(edit(stream, 4, "\x00\x14"), 12, "\x00\x00"), h)
	holds(t, 17, edit(edit(stream, 4, "\x00\x08"), 12, "\xff\xff"), h)
	told(t, 6, single, api.ErrShort)
	told(t, 17, stream, api.ErrLength)
	h.Flags = 18
	holds(t, 6, edit(stream, 4, "\x00\x07"), h)
	holds(t, 6, edit(stream, 4, "\xff\xff"), h)
}

// P2: bytes that the chapter does not ask about tell nothing, at whatever values.
func TestNotAsked(t *testing.T) {
	for b := range 256 {
		for _, at := range []int{4, 5, 6, 7, 8, 9, 10, 11, 14, 15, 16, 17, 18, 19} {
			holds(t, 6, edit(stream, at, one(b)), Head{From: 0x1234, To: 80, Flags: 18})
		}
		for _, at := range []int{6, 7} {
			holds(t, 17, edit(single, at, one(b)), Head{From: 0x1234, To: 53})
		}
		holds(t, 6, stream+one(b), Head{From: 0x1234, To: 80, Flags: 18})
		holds(t, 17, single+one(b), Head{From: 0x1234, To: 53})
	}
}

// P2: Flags is byte 13 of 6, at all its values, and 0 of 17.
func TestFlags(t *testing.T) {
	for b := range 256 {
		holds(t, 6, edit(stream, 13, one(b)), Head{From: 0x1234, To: 80, Flags: b})
		holds(t, 17, edit(edit(stream, 4, "\x00\x08"), 13, one(b)), Head{From: 0x1234, To: 80})
	}
}

// Errors, R1: of several errors at once the first is told.
func TestFirstError(t *testing.T) {
	for _, proto := range []int{6, 17} {
		whole, size := stream, api.ErrOffset
		if proto == 17 {
			whole, size = single, api.ErrLength
		}
		wrong := func(s string) string {
			if proto == 6 {
				return edit(s, 12, "\x60")
			}
			return edit(s, 4, "\x00\x09")
		}
		told(t, proto, wrong(whole), size)
		told(t, proto, wrong(whole)[:len(whole)-1], api.ErrShort)
		told(t, proto+1, wrong(whole), api.ErrProto)
		told(t, proto+1, whole[:len(whole)-1], api.ErrProto)
		told(t, proto+1, wrong(whole)[:len(whole)-1], api.ErrProto)
	}
}

// outside tells numbers below 0 and above most, some of which have the lower bits of one that is not.
func outside(most int) []int {
	return []int{-1, -2, -most, -most - 1, most + 1, most + 2, 2*most + 1, 1 << 32, 1<<32 + 1, math.MaxInt, math.MinInt, math.MinInt + 1}
}

// Errors: ports below 0 and above 65535.
func TestPutPort(t *testing.T) {
	for _, proto := range []int{6, 17} {
		for _, p := range outside(65535) {
			refused(t, proto, Head{From: p}, api.ErrArg)
			refused(t, proto, Head{To: p}, api.ErrArg)
			refused(t, proto, Head{From: p, To: p}, api.ErrArg)
			refused(t, proto, Head{From: 65535, To: p}, api.ErrArg)
			refused(t, proto, Head{From: p, To: 65535}, api.ErrArg)
			refused(t, proto, Head{From: p, To: p, Flags: -1}, api.ErrArg)
			refused(t, proto, Head{From: p, To: 80, Flags: 256}, api.ErrArg)
		}
	}
}

// Errors: Flags below 0 and above 255 of 6, and not 0 of 17.
func TestPutFlags(t *testing.T) {
	for _, f := range outside(255) {
		refused(t, 6, Head{From: 1, To: 2, Flags: f}, api.ErrArg)
		refused(t, 17, Head{From: 1, To: 2, Flags: f}, api.ErrArg)
	}
	for f := range 256 {
		h := Head{From: 1, To: 2, Flags: f}
		puts(t, 6, h, bytesOf(6, h))
		if f != 0 {
			refused(t, 17, h, api.ErrArg)
		}
	}
}

// P1, P2: every value of each byte, in whole and cut off.
func TestEachByte(t *testing.T) {
	for _, whole := range []string{stream + "opts", edit(stream, 4, "\x00\x10"), single + "ab"} {
		for at := range len(whole) {
			for b := range 256 {
				s := edit(whole, at, one(b))
				for n := range len(s) + 1 {
					for _, proto := range []int{6, 17, 0} {
						parses(t, proto, s[:n])
					}
				}
			}
		}
	}
}

// P1 to P3 at texts and heads that a fuzzer makes up; as a plain test at these seeds.
func FuzzPort(f *testing.F) {
	f.Add(6, stream, 1, 2, 18)
	f.Add(17, single, 65535, 0, 0)
	f.Add(0, "", 0, 0, 0)
	f.Add(6, stream[:19], -1, 65536, 256)
	f.Add(17, single[:7], 7, 7, 1)
	f.Fuzz(func(t *testing.T, proto int, s string, from, to, flags int) {
		for _, p := range []int{proto, 6, 17} {
			parses(t, p, s)
			h := Head{From: from, To: to, Flags: flags}
			put, e := Put(p, h)
			switch {
			case p != 6 && p != 17:
				if put != "" || e != api.ErrProto {
					t.Fatal(p, h, put, e)
				}
			case from < 0 || from > 65535 || to < 0 || to > 65535 || flags < 0 || flags > 255 || p == 17 && flags != 0:
				if put != "" || e != api.ErrArg {
					t.Fatal(p, h, put, e)
				}
			case put != bytesOf(p, h) || e != api.OK:
				t.Fatal(p, h, put, e)
			default:
				holds(t, p, put+s, h)
			}
			if got, e := Parse(p, s); e == api.OK {
				again, e := Put(p, got)
				if e != api.OK {
					t.Fatal(p, got, e)
				}
				holds(t, p, again+s, got)
			}
		}
	})
}
