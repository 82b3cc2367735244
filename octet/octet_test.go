package octet

import (
	"math"
	"strings"
	"testing"
)

// text has bytes of all kinds: low ones, high ones, noughts at the ends and inside.
const text = "\x00\x01\x7f\x80\xff\x00\xfe\x10\x20\xaa\x55\x00"

// values tells numbers whose bytes differ from each other, and those at the edges.
func values() []uint64 {
	vs := []uint64{0, 1, 0x7f, 0x80, 0xff, 0x100, 515, 0xffff, 0x10000, 1 << 31, 1<<32 - 1, 1 << 32, 1<<63 - 1, 1 << 63, math.MaxUint64, 0x0102030405060708, 0xf1e2d3c4b5a69788}
	for i := range 64 {
		vs = append(vs, 1<<i, 1<<i-1, math.MaxUint64<<i)
	}
	return vs
}

// wrong tells lengths that are not from 1 to 8.
func wrong() []int {
	return []int{math.MinInt, math.MinInt + 1, math.MinInt32, -9, -8, -1, 0, 9, 10, 16, 64, 256, 257, math.MaxInt32, 1 << 32, 1<<32 + 1, math.MaxInt - 8, math.MaxInt}
}

// lowest is what is left of v in n bytes, told without a shift.
func lowest(v uint64, n int) uint64 {
	if n == 8 {
		return v
	}
	m := uint64(1)
	for range n {
		m *= 256
	}
	return v % m
}

// number is the number of bytes, told without a shift.
func number(s string) uint64 {
	var v uint64
	for _, b := range []byte(s) {
		v = v*256 + uint64(b)
	}
	return v
}

// P2: the chapter's examples.
func TestExamples(t *testing.T) {
	if v, ok := Get("\x01\x02\x03", 1, 2); v != 515 || !ok {
		t.Error(v, ok)
	}
	if s := Put(515, 2); s != "\x02\x03" {
		t.Errorf("%x", s)
	}
}

// P2: the greatest byte is first, at each length.
func TestGetTakesGreatestFirst(t *testing.T) {
	s := "\xee\x01\x02\x03\x04\x05\x06\x07\x08\xdd"
	want := []uint64{1, 0x0102, 0x010203, 0x01020304, 0x0102030405, 0x010203040506, 0x01020304050607, 0x0102030405060708}
	for i, w := range want {
		if v, ok := Get(s, 1, i+1); v != w || !ok {
			t.Errorf("n %d: %x %v", i+1, v, ok)
		}
	}
}

// P2: each place of texts of each length, all n bytes there or not.
func TestGetAtAllPlaces(t *testing.T) {
	for l := range len(text) + 1 {
		s := text[:l]
		for n := 1; n <= 8; n++ {
			for at := -10; at <= l+10; at++ {
				var want uint64
				there := at >= 0 && at+n <= l
				if there {
					want = number(s[at : at+n])
				}
				if v, ok := Get(s, at, n); v != want || ok != there {
					t.Errorf("length %d at %d n %d: %x %v", l, at, n, v, ok)
				}
			}
		}
	}
}

// P1, P2: lengths that may not be, at places that are there and at such as are not.
func TestGetOfWrongLengths(t *testing.T) {
	for _, s := range []string{"", "\x01", text, strings.Repeat("\xff", 300)} {
		for _, n := range wrong() {
			for _, at := range []int{math.MinInt, -1, 0, 1, len(s) - 1, len(s), len(s) + 1, math.MaxInt} {
				if v, ok := Get(s, at, n); v != 0 || ok {
					t.Errorf("length %d at %d n %d: %x %v", len(s), at, n, v, ok)
				}
			}
		}
	}
}

// P1, P2: places so far off that place and length together would go round.
func TestGetFarOff(t *testing.T) {
	for _, s := range []string{"", "\x01", text} {
		for n := 1; n <= 8; n++ {
			for i := range 10 {
				for _, at := range []int{math.MinInt + i, math.MaxInt - i, math.MinInt32 - i, math.MaxUint32 + i, -1 - i} {
					if v, ok := Get(s, at, n); v != 0 || ok {
						t.Errorf("length %d at %d n %d: %x %v", len(s), at, n, v, ok)
					}
				}
			}
		}
	}
}

// P2: the greatest byte is first, and what is above the lowest n bytes is left out.
func TestPutLowestBytes(t *testing.T) {
	want := []string{"\x88", "\x77\x88", "\x66\x77\x88", "\x55\x66\x77\x88", "\x44\x55\x66\x77\x88", "\x33\x44\x55\x66\x77\x88", "\x22\x33\x44\x55\x66\x77\x88", "\x11\x22\x33\x44\x55\x66\x77\x88"}
	for i, w := range want {
		if s := Put(0x1122334455667788, i+1); s != w {
			t.Errorf("n %d: %x", i+1, s)
		}
	}
	for _, v := range values() {
		for n := 1; n <= 8; n++ {
			if s := Put(v, n); len(s) != n || number(s) != lowest(v, n) {
				t.Errorf("%x n %d: %x", v, n, s)
			}
		}
	}
}

// P1, P2: lengths that may not be.
func TestPutOfWrongLengths(t *testing.T) {
	for _, v := range values() {
		for _, n := range wrong() {
			if s := Put(v, n); s != "" {
				t.Errorf("%x n %d: %x", v, n, s)
			}
		}
	}
}

// P3: what is put is got, as far as it goes, whatever stands before and behind it.
func TestPutThenGet(t *testing.T) {
	for _, v := range values() {
		for n := 1; n <= 8; n++ {
			for _, front := range []string{"", "\xff", text} {
				for _, behind := range []string{"", "\x00", text} {
					s := front + Put(v, n) + behind
					if x, ok := Get(s, len(front), n); x != lowest(v, n) || !ok {
						t.Errorf("%x n %d in %x: %x %v", v, n, s, x, ok)
					}
				}
			}
		}
	}
}

// P3: what is got is put just so.
func TestGetThenPut(t *testing.T) {
	for n := 1; n <= 8; n++ {
		for at := 0; at+n <= len(text); at++ {
			v, ok := Get(text, at, n)
			if s := Put(v, n); s != text[at:at+n] || !ok {
				t.Errorf("at %d n %d: %x %v", at, n, s, ok)
			}
		}
	}
	for b := range 256 {
		one := string([]byte{byte(b)})
		if v, ok := Get(one, 0, 1); v != uint64(b) || !ok || Put(v, 1) != one {
			t.Error(b, v, ok)
		}
	}
}

// Places are told no further than they are asked for.
func TestPlacesStop(t *testing.T) {
	var got []int
	for i := range places(5, 8) {
		if got = append(got, i); i == 7 {
			break
		}
	}
	if len(got) != 3 || got[0] != 5 || got[1] != 6 || got[2] != 7 {
		t.Error(got)
	}
}

// P1, P2, P3 at arguments that a fuzzer makes up; as a plain test at these seeds.
func FuzzOctet(f *testing.F) {
	f.Add(text, 0, 8, uint64(515))
	f.Add("", 0, 1, uint64(0))
	f.Add("\x01\x02\x03", 1, 2, uint64(math.MaxUint64))
	f.Add("\x01", math.MaxInt, 8, uint64(1))
	f.Add("\x01", math.MinInt, math.MinInt, uint64(1))
	f.Fuzz(func(t *testing.T, s string, at, n int, v uint64) {
		right := n >= 1 && n <= 8
		there := right && at >= 0 && at <= len(s) && n <= len(s)-at
		x, ok := Get(s, at, n)
		if ok != there || !ok && x != 0 || ok && Put(x, n) != s[at:at+n] {
			t.Errorf("Get %x %d %d: %x %v", s, at, n, x, ok)
		}
		p := Put(v, n)
		if !right && p != "" || right && (len(p) != n || number(p) != lowest(v, n)) {
			t.Errorf("Put %x %d: %x", v, n, p)
		}
		if y, ok := Get(p+s, 0, n); right != ok || right && y != lowest(v, n) {
			t.Errorf("Get of Put %x %d: %x %v", v, n, y, ok)
		}
	})
}
