package sum

import (
	"strings"
	"testing"

	"gangplank/octet"
)

// texts tells ordinary texts, the empty one, such as are all 0 or all 1 bits, of even and odd lengths, and long ones.
func texts() []string {
	all := make([]byte, 256)
	for i := range all {
		all[i] = byte(i)
	}
	ts := []string{"", "a", "gangplank", "gangplanks", "\x01\x02", "\xff", "\xff\xff", "\x00\xff", "\xff\x00", "\xff\xff\x00\x01", "é€😀", "\x80\xfe\xff", string(all), string(all[1:]), string(all[:255])}
	for n := range 9 {
		ts = append(ts, strings.Repeat("\x00", n), strings.Repeat("\xff", n), strings.Repeat("\x80", n), strings.Repeat("\x00", n)+"\x01", "\x01"+strings.Repeat("\x00", n))
	}
	return append(ts, strings.Repeat("gangplank", 5001), strings.Repeat("\xff", 300001), strings.Repeat("\xff", 300002))
}

// rest is Fold told without carrying: words are held against multiples of 65535.
func rest(s string) int {
	high, low := 0, 0
	for i := 0; i < len(s); i++ {
		if i%2 == 0 {
			high += int(s[i])
		} else {
			low += int(s[i])
		}
	}
	total := high*256 + low
	if total > 0 && total%65535 == 0 {
		return 65535
	}
	return total % 65535
}

// sealed is a text of whole words with its own sum behind.
func sealed(s string) string { return s + octet.Put(uint64(Sum(s)), 2) }

// instead is s with w as its word at a place.
func instead(s string, at, w int) string {
	return s[:at] + string([]byte{byte(w >> 8), byte(w)}) + s[at+2:]
}

func at(s string, at int) int { return int(s[at])<<8 | int(s[at+1]) }

// P2: the chapter's examples.
func TestExamples(t *testing.T) {
	if f := Fold("\xff\xff\x00\x01"); f != 1 {
		t.Error(f)
	}
	if x := Sum("\x01\x02"); x != 65277 {
		t.Error(x)
	}
}

// P2: words by hand: the empty text, odd numbers of bytes, words that are all 0, and what is above 65535 added once, twice and three times.
func TestFoldByHand(t *testing.T) {
	for _, c := range []struct {
		s    string
		want int
	}{
		{"", 0},
		{"\x00", 0},
		{"\x00\x00", 0},
		{strings.Repeat("\x00", 1001), 0},
		{"\x01", 0x100},
		{"\xff", 0xff00},
		{"\x00\x01", 1},
		{"\x01\x00", 0x100},
		{"\x12\x34\x56", 0x1234 + 0x5600},
		{"\x00\x00\x01", 0x100},
		{"\x00\x01\x00", 1},
		{"\xff\xff", 65535},
		{"\xff\xfe\x00\x01", 65535},
		{"\xff\xff\x00\x00", 65535},
		{"\xff\xff\x00\x01", 1},
		{"\x80\x00\x80\x00", 1},
		{"\xff\xff\xff\xff", 65535},
		{"\xff\xff\xff\xff\x00\x01", 1},
		{"\xff\xff\xff\xff\x00\x02", 2},
		{"\xff\x00\xff\x00\x01", 0xff01},
		{"\xff\xff\xff", 0xff00},
		{strings.Repeat("\xff\xff", 65538) + "\x00\x01", 1},
		{strings.Repeat("\xff\xff", 100000), 65535},
	} {
		if f := Fold(c.s); f != c.want {
			t.Errorf("%d bytes, %.20q: %d, not %d", len(c.s), c.s, f, c.want)
		}
		if x := Sum(c.s); x != 65535-c.want {
			t.Errorf("%d bytes, %.20q: sum %d", len(c.s), c.s, x)
		}
		if g := Good(c.s); g != (c.want == 65535) {
			t.Errorf("%d bytes, %.20q: good %v", len(c.s), c.s, g)
		}
	}
}

// P1, P2: what is told of words that are held against multiples of 65535 is the same.
func TestAsRest(t *testing.T) {
	for _, s := range texts() {
		want := rest(s)
		if f := Fold(s); f != want || Sum(s) != 65535-want || Good(s) != (want == 65535) {
			t.Errorf("%d bytes, %.20q: %d, not %d", len(s), s, f, want)
		}
	}
}

// P2: each word alone is its own fold, in front of 0s and behind them.
func TestEachWordAlone(t *testing.T) {
	for w := range 65536 {
		s := string([]byte{byte(w >> 8), byte(w)})
		if Fold(s) != w || Sum(s) != 65535-w || Good(s) != (w == 65535) {
			t.Fatal(w, Fold(s), Sum(s), Good(s))
		}
		if Fold(s+"\x00\x00\x00") != w || Fold("\x00\x00"+s) != w {
			t.Fatal(w, Fold(s+"\x00\x00\x00"), Fold("\x00\x00"+s))
		}
	}
}

// P2: the last byte of an odd number is a word with a 0 behind it.
func TestOddIsFilledUp(t *testing.T) {
	for _, s := range texts() {
		if len(s)%2 == 1 && Fold(s) != Fold(s+"\x00") {
			t.Errorf("%.20q: %d, not %d", s, Fold(s), Fold(s+"\x00"))
		}
	}
	for b := range 256 {
		if f := Fold("\x00\x00" + string([]byte{byte(b)})); f != b*256 {
			t.Error(b, f)
		}
	}
}

// P2: a fold is 0 where all words are 0, and nowhere else; it is never above 65535.
func TestNoughtOfNoughtsAlone(t *testing.T) {
	for _, s := range texts() {
		f := Fold(s)
		if (f == 0) != (strings.Trim(s, "\x00") == "") || f < 0 || f > 65535 {
			t.Errorf("%.20q: %d", s, f)
		}
	}
}

// P2, P3: a text of whole words with its own sum behind is good; without it, it is good if its sum is 0.
func TestSealedIsGood(t *testing.T) {
	for _, s := range texts() {
		if len(s)%2 == 1 {
			continue
		}
		if !Good(sealed(s)) {
			t.Errorf("%.20q is not good", s)
		}
		if Good(s) != (Sum(s) == 0) {
			t.Errorf("%.20q: %v, %d", s, Good(s), Sum(s))
		}
	}
	for w := range 65536 {
		if s := sealed("\x45\x00" + string([]byte{byte(w >> 8), byte(w)}) + "\xc0\xa8"); !Good(s) {
			t.Fatalf("%q is not good", s)
		}
	}
}

// P2: any other word instead of one is found out, at each place, that of the sum too.
func TestOtherWordIsFoundOut(t *testing.T) {
	for _, s := range []string{"", "\x01\x02", "\x45\x00\x00\x73\xff\xff\x00\x00\xc0\xa8", "\x00\x00", "\xff\xff"} {
		s = sealed(s)
		for i := 0; i < len(s); i += 2 {
			old := at(s, i)
			for w := range 65536 {
				r := instead(s, i, w)
				same := w%65535 == old%65535 && strings.Trim(r, "\x00") != ""
				if Good(r) != same {
					t.Fatalf("%q at %d: %d instead of %d: %v", s, i, w, old, Good(r))
				}
			}
		}
	}
}

// P2: 0 and 65535 in the place of one another are not found out, as long as another word is not 0.
func TestNoughtAndFull(t *testing.T) {
	for _, c := range []struct {
		s, r string
		good bool
	}{
		{"\x12\x34\x00\x00\xed\xcb", "\x12\x34\xff\xff\xed\xcb", true},
		{"\x00\x00\x12\x34\xed\xcb", "\xff\xff\x12\x34\xed\xcb", true},
		{"\xff\xff\x00\x00", "\xff\xff\xff\xff", true},
		{"\xff\xff\xff\xff", "\x00\x00\xff\xff", true},
		{"\x00\x00\xff\xff", "\x00\x00\x00\x00", false},
	} {
		if !Good(c.s) || Good(c.r) != c.good {
			t.Errorf("%q %v, %q %v", c.s, Good(c.s), c.r, Good(c.r))
		}
	}
}

// P2: two words in the place of one another leave a fold as it is, two bytes of a word do not.
func TestOrder(t *testing.T) {
	if Fold("\x12\x34\x56\x78") != Fold("\x56\x78\x12\x34") {
		t.Error("words")
	}
	if Fold("\x12\x34") == Fold("\x34\x12") {
		t.Error("bytes")
	}
}

// Words are told no further than they are asked for.
func TestWordsStop(t *testing.T) {
	var got []int
	for w := range words("\x01\x02\x03\x04\x05") {
		if got = append(got, w); w == 0x0304 {
			break
		}
	}
	if len(got) != 2 || got[0] != 0x0102 {
		t.Error(got)
	}
}

// P1 to P3 at texts that a fuzzer makes up; as a plain test at these seeds.
func FuzzSum(f *testing.F) {
	f.Add("", 0, uint16(0))
	f.Add("\x45\x00\x00\x73", 1, uint16(0xffff))
	f.Add("\xff\xff\x00\x00\x01", 0, uint16(0))
	f.Fuzz(func(t *testing.T, s string, place int, w uint16) {
		want := rest(s)
		if Fold(s) != want || Sum(s) != 65535-want || Good(s) != (want == 65535) {
			t.Fatalf("%q: %d %d %v", s, Fold(s), Sum(s), Good(s))
		}
		g := sealed(s[:len(s)/2*2])
		if !Good(g) {
			t.Fatalf("%q is not good", g)
		}
		i := int(uint(place)%uint(len(g)/2)) * 2
		r := instead(g, i, int(w))
		if same := int(w)%65535 == at(g, i)%65535 && strings.Trim(r, "\x00") != ""; Good(r) != same {
			t.Fatalf("%q: %v", r, Good(r))
		}
	})
}
