package packet

import (
	"math"
	"strings"
	"testing"

	"gangplank/api"
	"gangplank/ip4"
	"gangplank/ip6"
	"gangplank/port"
)

// Packets by hand, of either version and of either protocol. The sums of version 4 were reckoned by hand, too.
const (
	tcp4 = "\x45\x00\x00\x28\x00\x00\x40\x00\x40\x06\x26\xce\x0a\x00\x00\x01\x0a\x00\x00\x02" + stream
	udp4 = "\x45\x00\x00\x1c\x00\x00\x40\x00\x40\x11\x26\xcf\x0a\x00\x00\x01\x0a\x00\x00\x02" + single
	tcp6 = "\x60\x00\x00\x00\x00\x14\x06\x40" + "ABCDEFGHIJKLMNOP" + "abcdefghijklmnop" + stream
	udp6 = "\x60\x00\x00\x00\x00\x08\x11\x40" + "ABCDEFGHIJKLMNOP" + "abcdefghijklmnop" + single

	stream = "\x04\xd2\x00\x50\x00\x00\x00\x00\x00\x00\x00\x00\x50\x12\x00\x00\x00\x00\x00\x00"
	single = "\x04\xd2\x00\x35\x00\x08\x00\x00"
)

// key4 is the key of tcp4.
func key4() api.Key {
	return api.Key{V: 4, Src: "\x0a\x00\x00\x01", Dst: "\x0a\x00\x00\x02", From: 1234, To: 80, Proto: 6}
}

// key6 is the key of udp6.
func key6() api.Key {
	return api.Key{V: 6, Src: "ABCDEFGHIJKLMNOP", Dst: "abcdefghijklmnop", From: 1234, To: 53, Proto: 17}
}

// with is a key with one thing changed.
func with(k api.Key, change func(k *api.Key)) api.Key {
	change(&k)
	return k
}

// byHand is the packets by hand, and what they tell.
func byHand() map[string]api.Packet {
	return map[string]api.Packet{
		tcp4: {Key: key4(), Flags: 18},
		udp4: {Key: with(key4(), func(k *api.Key) { k.To, k.Proto = 53, 17 })},
		tcp6: {Key: with(key6(), func(k *api.Key) { k.To, k.Proto = 80, 6 }), Flags: 18},
		udp6: {Key: key6()},
	}
}

// edit is s with other bytes from a place on.
func edit(s string, at int, by string) string { return s[:at] + by + s[at+len(by):] }

// one is the byte of a number.
func one(n int) string { return string([]byte{byte(n)}) }

// two is the two bytes of a number, the greater one first.
func two(n int) string { return string([]byte{byte(n / 256), byte(n % 256)}) }

// summed is a packet of version 4, whose head has 20 bytes, with the sum that its head asks for.
func summed(s string) string {
	total := 0
	for i := 0; i < 20; i += 2 {
		if i != 10 {
			total += int(s[i])*256 + int(s[i+1])
		}
	}
	for total > 65535 {
		total = total/65536 + total%65536
	}
	return edit(s, 10, two(65535-total))
}

// asked is Parse told by the chapter's own sentences, and by the layers that it names.
func asked(s string) (p api.Packet, e api.Errno) {
	if s == "" {
		return p, api.ErrShort
	}
	var k api.Key
	var rest string
	switch s[0] / 16 {
	case 4:
		h, r, e := ip4.Parse(s)
		if e != api.OK {
			return p, e
		}
		k, rest = api.Key{V: 4, Src: h.Src, Dst: h.Dst, Proto: h.Proto}, r
	case 6:
		h, r, e := ip6.Parse(s)
		if e != api.OK {
			return p, e
		}
		k, rest = api.Key{V: 6, Src: h.Src, Dst: h.Dst, Proto: h.Proto}, r
	default:
		return p, api.ErrVersion
	}
	h, e := port.Parse(k.Proto, rest)
	if e != api.OK {
		return p, e
	}
	k.From, k.To = h.From, h.To
	return api.Packet{Key: k, Flags: h.Flags}, api.OK
}

// parses fails unless Parse tells of s what the chapter's sentences tell.
func parses(t *testing.T, s string) {
	t.Helper()
	wp, we := asked(s)
	if p, e := Parse(s); p != wp || e != we {
		t.Fatalf("%d bytes, %.60x: %v %v, not %v %v", len(s), s, p, e, wp, we)
	}
}

// told fails unless Parse tells this error of s, and a zero packet.
func told(t *testing.T, s string, want api.Errno) {
	t.Helper()
	if p, e := Parse(s); e != want || p != (api.Packet{}) {
		t.Errorf("%d bytes, %.60x: %v %v, not %v", len(s), s, p, e, want)
	}
}

// holds fails unless Parse tells this packet of s.
func holds(t *testing.T, s string, want api.Packet) {
	t.Helper()
	if p, e := Parse(s); e != api.OK || p != want {
		t.Errorf("%d bytes, %.60x: %v %v, not %v", len(s), s, p, e, want)
	}
}

// refused fails unless Put tells this error, and the empty text.
func refused(t *testing.T, p api.Packet, want api.Errno) {
	t.Helper()
	if s, e := Put(p); s != "" || e != want {
		t.Errorf("%v: %x %v, not %v", p, s, e, want)
	}
}

// mayBe is whether a key has Bytes, by the chapter's own sentence.
func mayBe(k api.Key) bool {
	four := k.V == 4 && len(k.Src) == 4 && len(k.Dst) == 4
	six := k.V == 6 && len(k.Src) == 16 && len(k.Dst) == 16
	return (four || six) && (k.Proto == 6 || k.Proto == 17) && 0 <= k.From && k.From <= 65535 && 0 <= k.To && k.To <= 65535
}

// bytesOf is what the chapter says that the Bytes of a key are that has some.
func bytesOf(k api.Key) string {
	pad := strings.Repeat("\x00", 16-len(k.Src))
	return one(k.V) + one(k.Proto) + two(k.From) + two(k.To) + k.Src + pad + k.Dst + pad
}

// keyed fails unless Bytes and Of tell of a key what the chapter says.
func keyed(t *testing.T, k api.Key) {
	t.Helper()
	b, ok := Bytes(k)
	if !mayBe(k) {
		if b != "" || ok {
			t.Fatalf("%v: %x %v", k, b, ok)
		}
		return
	}
	if b != bytesOf(k) || !ok || len(b) != 38 {
		t.Fatalf("%v: %x %v, not %x", k, b, ok, bytesOf(k))
	}
	if got, ok := Of(b); got != k || !ok {
		t.Fatalf("%x: %v %v, not %v", b, got, ok, k)
	}
}

// none fails unless Of tells that there is no key of these bytes.
func none(t *testing.T, b string) {
	t.Helper()
	if k, ok := Of(b); k != (api.Key{}) || ok {
		t.Errorf("%x: %v %v", b, k, ok)
	}
}

// outside tells numbers below 0 and above most, some of which have the lower bits of one that is not.
func outside(most int) []int {
	return []int{-1, -2, -most, -most - 1, most + 1, most + 2, 2*most + 1, 1 << 32, 1<<32 + 1, math.MaxInt, math.MinInt, math.MinInt + 1}
}

// strangers tells numbers that are neither a nor b, some of which have the lower bits of one of them.
func strangers(a, b int) []int {
	var ns []int
	for n := -300; n <= 600; n++ {
		if n != a && n != b {
			ns = append(ns, n)
		}
	}
	for _, high := range []int{1 << 16, 1 << 32, math.MinInt} {
		ns = append(ns, high, high+a, high+b)
	}
	return append(ns, math.MaxInt, -a, -b)
}

// P2: the chapter's examples.
func TestExamples(t *testing.T) {
	p := api.Packet{Key: api.Key{V: 4, Src: "\x01\x02\x03\x04", Dst: "\x05\x06\x07\x08", From: 1, To: 2, Proto: 17}}
	s, e := Put(p)
	if e != api.OK || len(s) != 28 {
		t.Fatal(len(s), e)
	}
	holds(t, s, p)
	if b, ok := Bytes(p.Key); len(b) != 38 || !ok {
		t.Error(len(b), ok)
	}
}

// P2: packets by hand are parsed, and put byte by byte.
func TestByHand(t *testing.T) {
	for s, p := range byHand() {
		holds(t, s, p)
		if got, e := Put(p); got != s || e != api.OK {
			t.Errorf("%v: %x %v, not %x", p, got, e, s)
		}
	}
}

// P2, P3: what is put is parsed, whatever stands behind it.
func TestPutIsParsed(t *testing.T) {
	ports := []int{0, 1, 80, 255, 256, 4660, 32768, 65534, 65535}
	behind := []string{"", "\x00", "\xff", "gangplank", tcp4, udp6, strings.Repeat("z", 300)}
	addresses := map[int][]string{
		4: {"\x00\x00\x00\x00", "\xff\xff\xff\xff", "\x01\x02\x03\x04"},
		6: {strings.Repeat("\x00", 16), strings.Repeat("\xff", 16), "0123456789abcdef"},
	}
	check := func(p api.Packet) {
		s, e := Put(p)
		want := map[int]int{4: 20, 6: 40}[p.Key.V] + map[int]int{6: 20, 17: 8}[p.Key.Proto]
		if e != api.OK || len(s) != want {
			t.Fatalf("%v: %x %v", p, s, e)
		}
		for _, back := range behind {
			holds(t, s+back, p)
		}
	}
	for v, as := range addresses {
		for i, a := range as {
			for _, from := range ports {
				for _, to := range ports {
					k := api.Key{V: v, Src: a, Dst: as[(i+1)%len(as)], From: from, To: to, Proto: 17}
					check(api.Packet{Key: k})
					k.Proto = 6
					check(api.Packet{Key: k, Flags: (from + to) % 256})
				}
			}
		}
	}
	behind = behind[:2]
	for flags := range 256 {
		check(api.Packet{Key: key4(), Flags: flags})
		check(api.Packet{Key: with(key6(), func(k *api.Key) { k.Proto = 6 }), Flags: flags})
	}
}

// P3: what is parsed is put, and parsed again: options, data, and what else is not told of a packet is left out.
func TestParsedIsPut(t *testing.T) {
	texts := []string{
		edit(tcp6, 1, "\xff\xff\xff") + "behind",
		edit(edit(tcp6, 4, "\x00\x1c"), 52, "\x60") + "optsdata",
		edit(edit(udp6, 4, "\x00\x0c"), 44, "\x00\x0c") + "data and more",
		summed(edit(edit(udp4, 2, "\x00\x20"), 24, "\x00\x0a")) + "data",
		summed(edit(tcp4, 1, "\x99\x00\x28\x12\x34\x80\x00\x07")),
	}
	for _, s := range texts {
		p, e := Parse(s)
		if e != api.OK {
			t.Fatalf("%x: %v", s, e)
		}
		again, e := Put(p)
		if e != api.OK || again == s {
			t.Fatalf("%v: %x %v", p, again, e)
		}
		holds(t, again, p)
		holds(t, again+s, p)
	}
}

// Errors: the empty text is short, and each number of a version but 4 and 6 is wrong, at all lengths.
func TestVersion(t *testing.T) {
	told(t, "", api.ErrShort)
	for b := range 256 {
		for _, whole := range []string{tcp4, udp4, tcp6, udp6, strings.Repeat("\xff", 60), strings.Repeat("\x00", 60)} {
			for n := 1; n <= len(whole); n++ {
				s := one(b) + whole[1:n]
				if v := b / 16; v != 4 && v != 6 {
					told(t, s, api.ErrVersion)
					continue
				}
				parses(t, s)
			}
		}
	}
	for b := range 256 {
		want := api.ErrVersion
		if b/16 == 4 || b/16 == 6 {
			want = api.ErrShort
		}
		told(t, one(b), want)
	}
}

// Errors: those of a head of version 4.
func TestHead4(t *testing.T) {
	for n := 1; n < 20; n++ {
		told(t, tcp4[:n], api.ErrShort)
	}
	for n := 20; n < len(tcp4); n++ {
		told(t, tcp4[:n], api.ErrLength)
	}
	told(t, edit(tcp4, 0, "\x44"), api.ErrLength)
	told(t, edit(tcp4, 2, "\x00\x13"), api.ErrLength)
	told(t, edit(tcp4, 2, "\x00\x29"), api.ErrLength)
	told(t, edit(tcp4, 11, "\xcd"), api.ErrSum)
	told(t, summed(edit(tcp4, 6, "\x20\x00")), api.ErrFragment)
	told(t, summed(edit(tcp4, 6, "\x00\x01")), api.ErrFragment)
}

// Errors: those of a head of version 6.
func TestHead6(t *testing.T) {
	for n := 1; n < 40; n++ {
		told(t, udp6[:n], api.ErrShort)
	}
	for n := 40; n < len(udp6); n++ {
		told(t, udp6[:n], api.ErrLength)
	}
	told(t, edit(udp6, 4, "\x00\x09"), api.ErrLength)
	told(t, edit(udp6, 4, "\xff\xff"), api.ErrLength)
}

// in is text by text a packet of each version that holds a text of a protocol.
func in(proto int, rest string) []string {
	return []string{
		summed(edit(edit(tcp4[:20], 2, two(20+len(rest))), 9, one(proto)) + rest),
		edit(edit(udp6[:40], 4, two(len(rest))), 6, one(proto)) + rest,
	}
}

// Errors: those of what a head holds, with whatever stands behind it, which is no part of that.
func TestHeld(t *testing.T) {
	held := func(proto int, rest string, want api.Errno) {
		t.Helper()
		for _, s := range in(proto, rest) {
			told(t, s, want)
			told(t, s+"behind, and long enough for all that it may ask for", want)
		}
	}
	for proto := range 256 {
		if proto != 6 && proto != 17 {
			held(proto, "", api.ErrProto)
			held(proto, stream, api.ErrProto)
			held(proto, single, api.ErrProto)
		}
	}
	for n := range 20 {
		held(6, stream[:n], api.ErrShort)
	}
	for n := range 8 {
		held(17, single[:n], api.ErrShort)
	}
	held(6, edit(stream, 12, "\x40"), api.ErrOffset)
	held(6, edit(stream, 12, "\x60"), api.ErrOffset)
	held(6, edit(stream, 12, "\x60")+"abc", api.ErrOffset)
	held(17, edit(single, 4, "\x00\x07"), api.ErrLength)
	held(17, edit(single, 4, "\x00\x09"), api.ErrLength)
	for _, s := range append(in(6, edit(stream, 12, "\x60")+"abcd"), in(17, edit(single, 4, "\x00\x09")+"a")...) {
		p, e := Parse(s)
		if e != api.OK || p.Key.From != 1234 {
			t.Errorf("%x: %v %v", s, p, e)
		}
	}
}

// Errors, R1: an error of the head is told ahead of one of what it holds.
func TestHeadFirst(t *testing.T) {
	for _, wrong := range []string{in(1, "")[0], in(6, stream[:19])[0], in(6, edit(stream, 12, "\x40"))[0]} {
		told(t, edit(wrong, 10, two(int(wrong[10])*256+int(wrong[11])-1)), api.ErrSum)
		told(t, summed(edit(wrong, 6, "\x20\x00")), api.ErrFragment)
		told(t, wrong[:19], api.ErrShort)
	}
	told(t, in(1, "x")[0][:20], api.ErrLength)
	told(t, in(1, "x")[1][:40], api.ErrLength)
	told(t, in(17, edit(single, 4, "\x00\x07"))[1][:39], api.ErrShort)
}

// Errors: a V that is neither 4 nor 6, ahead of all else.
func TestPutVersion(t *testing.T) {
	refused(t, api.Packet{}, api.ErrVersion)
	for _, v := range strangers(4, 6) {
		for _, p := range byHand() {
			p.Key.V = v
			refused(t, p, api.ErrVersion)
			p.Key.Proto = 1
			refused(t, p, api.ErrVersion)
			p.Key.Src, p.Key.From, p.Flags = "", -1, 256
			refused(t, p, api.ErrVersion)
		}
	}
}

// Errors: those of port.Put, alone and with those of the head.
func TestPutPort(t *testing.T) {
	for _, src := range []string{"", "abc", "abcd", "abcde", "ABCDEFGHIJKLMNOP", "ABCDEFGHIJKLMNOPQ"} {
		for _, v := range []int{4, 6} {
			base := api.Key{V: v, Src: src, Dst: src, From: 1, To: 2, Proto: 6}
			for _, proto := range strangers(6, 17) {
				for _, from := range []int{1, -1, 65536} {
					k := with(base, func(k *api.Key) { k.Proto, k.From = proto, from })
					refused(t, api.Packet{Key: k}, api.ErrProto)
					refused(t, api.Packet{Key: k, Flags: 256}, api.ErrProto)
				}
			}
			for _, proto := range []int{6, 17} {
				base.Proto = proto
				for _, n := range outside(65535) {
					refused(t, api.Packet{Key: with(base, func(k *api.Key) { k.From = n })}, api.ErrArg)
					refused(t, api.Packet{Key: with(base, func(k *api.Key) { k.To = n })}, api.ErrArg)
				}
				for _, n := range outside(255) {
					refused(t, api.Packet{Key: base, Flags: n}, api.ErrArg)
				}
			}
			for n := 1; n < 256; n++ {
				refused(t, api.Packet{Key: base, Flags: n}, api.ErrArg)
			}
		}
	}
}

// Errors: Src and Dst of all sizes, alike and unlike, with either V.
func TestPutSizes(t *testing.T) {
	long := strings.Repeat("a", 40)
	for _, v := range []int{4, 6} {
		for _, proto := range []int{6, 17} {
			for i := range 40 {
				for j := range 40 {
					p := api.Packet{Key: api.Key{V: v, Src: long[:i], Dst: long[:j], From: 1, To: 2, Proto: proto}}
					keyed(t, p.Key)
					if v == 4 && i == 4 && j == 4 || v == 6 && i == 16 && j == 16 {
						s, e := Put(p)
						if e != api.OK {
							t.Error(v, i, j, e)
						}
						holds(t, s, p)
						continue
					}
					refused(t, p, api.ErrArg)
				}
			}
		}
	}
}

// P2: the bytes of keys, by hand.
func TestBytesByHand(t *testing.T) {
	zeros := strings.Repeat("\x00", 12)
	for k, want := range map[api.Key]string{
		key4(): "\x04\x06\x04\xd2\x00\x50\x0a\x00\x00\x01" + zeros + "\x0a\x00\x00\x02" + zeros,
		key6(): "\x06\x11\x04\xd2\x00\x35ABCDEFGHIJKLMNOPabcdefghijklmnop",
	} {
		if b, ok := Bytes(k); b != want || !ok {
			t.Errorf("%v: %x %v", k, b, ok)
		}
		if got, ok := Of(want); got != k || !ok {
			t.Errorf("%x: %v %v", want, got, ok)
		}
	}
}

// P2, P3: keys have bytes, and are told by them, at every port, in either place.
func TestPorts(t *testing.T) {
	for p := range 65536 {
		keyed(t, with(key4(), func(k *api.Key) { k.From = p }))
		keyed(t, with(key6(), func(k *api.Key) { k.To = p }))
	}
	for _, base := range []api.Key{key4(), key6()} {
		for _, p := range append(outside(65535), 0, 65535) {
			keyed(t, with(base, func(k *api.Key) { k.From = p }))
			keyed(t, with(base, func(k *api.Key) { k.To = p }))
			keyed(t, with(base, func(k *api.Key) { k.From, k.To = p, p }))
		}
	}
}

// P2: keys that may not be have no bytes.
func TestNoBytes(t *testing.T) {
	keyed(t, api.Key{})
	for _, base := range []api.Key{key4(), key6()} {
		for _, v := range append(strangers(4, 6), 4, 6) {
			keyed(t, with(base, func(k *api.Key) { k.V = v }))
			// A version that is neither has addresses of no size, not even of none.
			keyed(t, with(base, func(k *api.Key) { k.V, k.Src, k.Dst = v, "", "" }))
		}
		for _, proto := range append(strangers(6, 17), 6, 17) {
			keyed(t, with(base, func(k *api.Key) { k.Proto = proto }))
		}
		for n := range 40 {
			// What is left out of Src is 0, and so is what stands behind a short one: yet it is not the same key.
			zeros := strings.Repeat("\x00", n)
			keyed(t, with(base, func(k *api.Key) { k.Src = zeros }))
			keyed(t, with(base, func(k *api.Key) { k.Dst = zeros }))
			keyed(t, with(base, func(k *api.Key) { k.Src, k.Dst = zeros, zeros }))
		}
	}
}

// P2: a zero key has no bytes, and bytes that are all 0 are no key's.
func TestOfZeros(t *testing.T) {
	for n := range 80 {
		none(t, strings.Repeat("\x00", n))
	}
}

// P2: Of of other lengths than 38.
func TestOfLength(t *testing.T) {
	for _, k := range []api.Key{key4(), key6()} {
		whole := bytesOf(k)
		for n := range 38 {
			none(t, whole[:n])
			none(t, whole[38-n:])
		}
		for _, more := range []string{"\x00", "a", "\x00\x00", whole} {
			none(t, whole+more)
			none(t, more+whole)
		}
		if got, ok := Of(whole); got != k || !ok {
			t.Error(got, ok)
		}
	}
}

// P2, P3: of any bytes Of tells a key just if these are its Bytes, at every value of each byte.
func TestOfEachByte(t *testing.T) {
	zero := with(key4(), func(k *api.Key) { k.Src, k.Dst = "\x00\x00\x00\x00", "\x00\x00\x00\x00" })
	for _, base := range []api.Key{key4(), key6(), zero} {
		whole := bytesOf(base)
		for at := range 38 {
			for b := range 256 {
				s := edit(whole, at, one(b))
				ofs(t, s)
				if base.V == 4 && (at >= 10 && at < 22 || at >= 26) && b != 0 {
					none(t, s)
				}
			}
		}
	}
}

// ofs fails unless Of tells of b what the chapter says, told byte by byte.
func ofs(t *testing.T, b string) {
	t.Helper()
	n := 0
	if len(b) == 38 && (b[1] == 6 || b[1] == 17) {
		n = map[byte]int{4: 4, 6: 16}[b[0]]
	}
	if n == 0 || strings.Trim(b[6+n:22]+b[22+n:], "\x00") != "" {
		none(t, b)
		return
	}
	want := api.Key{V: int(b[0]), Src: b[6 : 6+n], Dst: b[22 : 22+n], From: int(b[2])*256 + int(b[3]), To: int(b[4])*256 + int(b[5]), Proto: int(b[1])}
	if k, ok := Of(b); k != want || !ok {
		t.Fatalf("%x: %v %v, not %v", b, k, ok, want)
	}
	if again, ok := Bytes(want); again != b || !ok {
		t.Fatalf("%v: %x %v, not %x", want, again, ok, b)
	}
}

// P3: keys that are unlike in one field alone have unlike bytes.
func TestUnlike(t *testing.T) {
	long := map[int]string{4: "abcd", 6: "abcdefghijklmnop"}
	seen := map[string]api.Key{}
	for v, a := range long {
		for _, proto := range []int{6, 17} {
			base := api.Key{V: v, Src: a, Dst: a, From: 258, To: 258, Proto: proto}
			keys := []api.Key{base}
			for at := range len(a) {
				keys = append(keys, with(base, func(k *api.Key) { k.Src = edit(a, at, "\x00") }), with(base, func(k *api.Key) { k.Dst = edit(a, at, "\x00") }))
			}
			for _, p := range []int{0, 1, 2, 256, 257, 259, 514, 65535} {
				keys = append(keys, with(base, func(k *api.Key) { k.From = p }), with(base, func(k *api.Key) { k.To = p }))
			}
			for _, k := range keys {
				keyed(t, k)
				b, _ := Bytes(k)
				if old, ok := seen[b]; ok {
					t.Errorf("%v and %v: %x", old, k, b)
				}
				seen[b] = k
			}
		}
	}
	// An address of 4 bytes and one of 16 that ends in bytes 0 stand alike: the version tells them apart.
	wide := with(key4(), func(k *api.Key) {
		k.V, k.Src, k.Dst = 6, k.Src+strings.Repeat("\x00", 12), k.Dst+strings.Repeat("\x00", 12)
	})
	a, _ := Bytes(key4())
	b, _ := Bytes(wide)
	if a[1:] != b[1:] || a[0] == b[0] {
		t.Errorf("%x %x", a, b)
	}
	keyed(t, wide)
}

// P2: the flags of a packet that closes its flow: Fin or Rst, of 6 alone.
func TestClosing(t *testing.T) {
	closing := func(proto, flags int) bool {
		return Closing(api.Packet{Key: with(key4(), func(k *api.Key) { k.Proto = proto }), Flags: flags})
	}
	for _, flags := range []int{api.Fin, api.Rst, api.Fin | api.Rst, api.Fin | api.Ack, api.Rst | api.Syn, 255, 1<<40 | api.Rst, -1} {
		if !closing(6, flags) {
			t.Error(flags)
		}
	}
	for flags := range 1024 {
		if closing(6, flags) != (flags%2 == 1 || flags/4%2 == 1) {
			t.Error(flags)
		}
		for _, proto := range []int{17, 0, 1, 7, -6, 6 + 256, 1<<32 + 6, math.MinInt + 6} {
			if closing(proto, flags) {
				t.Error(proto, flags)
			}
		}
	}
	for _, flags := range []int{0, api.Syn, api.Ack, api.Syn | api.Ack, 8, 32, 64, 128, 1 << 32, math.MinInt, -6, -8} {
		if closing(6, flags) {
			t.Error(flags)
		}
	}
	// What else a packet has is not asked about.
	if !Closing(api.Packet{Key: api.Key{Proto: 6, From: -1}, Flags: 1}) {
		t.Error("a key that may not be")
	}
	for s, p := range byHand() {
		if got, _ := Parse(s); Closing(got) || Closing(p) {
			t.Errorf("%x", s)
		}
	}
}

// P1, P2: every value of each byte of a packet, in whole and cut off.
func TestEachByte(t *testing.T) {
	for whole := range byHand() {
		for at := range len(whole) {
			for b := range 256 {
				s := edit(whole, at, one(b))
				parses(t, s)
				parses(t, s[:len(s)-1])
				parses(t, s+"x")
				if whole[0] == '\x45' {
					parses(t, summed(s))
					parses(t, summed(s)+strings.Repeat("x", 40))
				}
			}
		}
	}
}

// P1 to P3 at texts and packets that a fuzzer makes up; as a plain test at these seeds.
func FuzzPacket(f *testing.F) {
	for s, p := range byHand() {
		k := p.Key
		f.Add(s, k.V, k.Src, k.Dst, k.From, k.To, k.Proto, p.Flags)
		f.Add(bytesOf(k), k.V, k.Src, k.Src+"x", k.To, -1, k.Proto, 256)
	}
	f.Add(strings.Repeat("\x00", 38), 5, "", "abcd", 0, 65536, 1, -1)
	f.Add("\x45", 6, "abcd", "abcd", math.MinInt, math.MaxInt, 17, 1)
	f.Fuzz(func(t *testing.T, s string, v int, src, dst string, from, to, proto, flags int) {
		parses(t, s)
		ofs(t, s)
		k := api.Key{V: v, Src: src, Dst: dst, From: from, To: to, Proto: proto}
		keyed(t, k)
		p := api.Packet{Key: k, Flags: flags}
		put, e := Put(p)
		// Put asks for no more of a packet than Bytes of its key, but for the flags.
		may := mayBe(k) && (proto == 17 && flags == 0 || proto == 6 && flags >= 0 && flags <= 255)
		if may != (e == api.OK) || may == (put == "") {
			t.Fatalf("%v: %x %v", p, put, e)
		}
		if may {
			holds(t, put+s, p)
		}
		if got, e := Parse(s); e == api.OK {
			keyed(t, got.Key)
			again, e := Put(got)
			if e != api.OK {
				t.Fatalf("%v: %v", got, e)
			}
			holds(t, again+s, got)
		}
		if Closing(p) != (proto == 6 && flags&5 != 0) {
			t.Fatal(p)
		}
	})
}
