package fnv_test

import (
	"hash/fnv"
	"math"
	"math/big"
	"strings"
	"testing"

	usher "usher/fnv"
)

// random are numbers below a bound, the same ones each time.
type random uint64

func (r *random) next() uint64 {
	x := uint64(*r)
	x ^= x << 13
	x ^= x >> 7
	x ^= x << 17
	*r = random(x)
	return x
}

func (r *random) below(n int) int { return int((r.next() >> 11) % uint64(n)) }

const seed = random(88172645463325252)

// text is any bytes, fewer than n.
func (r *random) text(n int) string {
	b := make([]byte, r.below(n))
	for i := range b {
		b[i] = byte(r.below(256))
	}
	return string(b)
}

const begin = 14695981039346656037

var beginnings = []uint64{
	0, 1, 2, 127, 128, 255, 256, 1 << 32, 1<<63 - 1, 1 << 63, math.MaxUint64 - 1, math.MaxUint64,
	begin, begin - 1, begin + 1, 1099511628211,
}

// texts are those in which a byte is easily taken for something else.
func texts() []string {
	list := []string{
		"", "a", "b", "ab", "ba", "foobar", "\x00", "\x00\x00", "a\x00", "\x00a", "a\x00b", "a\x00\x00b",
		"\x7f", "\x80", "\xff", "\xff\xff", "\xc3", "\xc3\xa9", "é", "e\u0301", "日本", "\U0001f600",
		"\xed\xa0\x80", "\xf4\x90\x80\x80", "\ufffd", "\xefa", "\n", "\r\n", " ", " a", "a ", "A",
		strings.Repeat("\x00", 300), strings.Repeat("\xff", 300), strings.Repeat("ab", 300),
	}
	for c := range 256 {
		list = append(list, string([]byte{byte(c)}))
	}
	return list
}

// slow goes the chapter's steps by numbers without a bound, and cuts each product.
func slow(h uint64, s string) uint64 {
	prime := big.NewInt(1099511628211)
	low := new(big.Int).SetUint64(math.MaxUint64)
	n := new(big.Int).SetUint64(h)
	for _, c := range []byte(s) {
		n.Xor(n, big.NewInt(int64(c)))
		n.Mul(n, prime)
		n.And(n, low)
	}
	return n.Uint64()
}

func library(s string) uint64 {
	h := fnv.New64a()
	h.Write([]byte(s))
	return h.Sum64()
}

func checkSum(t *testing.T, s string) {
	t.Helper()
	got := usher.Sum(s)
	if want := slow(begin, s); got != want {
		t.Errorf("Sum(%.40q, %d bytes) = %d, want %d", s, len(s), got, want)
	}
	if want := library(s); got != want {
		t.Errorf("Sum(%.40q, %d bytes) = %d, the library says %d", s, len(s), got, want)
	}
}

func checkMore(t *testing.T, h uint64, s string) {
	t.Helper()
	if got, want := usher.More(h, s), slow(h, s); got != want {
		t.Errorf("More(%d, %.40q, %d bytes) = %d, want %d", h, s, len(s), got, want)
	}
}

func checkFlow(t *testing.T, schema, key string) {
	t.Helper()
	if got, want := usher.Flow(schema, key), library(schema+"\x00"+key); got != want {
		t.Errorf("Flow(%.40q, %.40q) = %d, want %d", schema, key, got, want)
	}
}

// P6.1: what is known of the hash, written out.
func TestSumExamples(t *testing.T) {
	for _, c := range []struct {
		s    string
		want uint64
	}{
		{"", 14695981039346656037},
		{"a", 12638187200555641996},
		{"foobar", 9625390261332436968},
		{"b", 0xaf63df4c8601f1a5},
		{"fo", 0x08985907b541d342},
		{"foo", 0xdcb27518fed9d577},
		{"foob", 0xdd120e790c2512af},
		{"fooba", 0xcac165afa2fef40a},
		{"\x00", 0xaf63bd4c8601b7df},
		{"a\x00", 0x089be207b544f1e4},
		{"foobar\x00", 0x34531ca7168b8f38},
		// One that is known to lead to 0, beyond 127 in most of its bytes.
		{"\xd5\x6b\xb9\x53\x42\x87\x08\x36", 0},
	} {
		if got := usher.Sum(c.s); got != c.want {
			t.Errorf("Sum(%q) = %d, want %d", c.s, got, c.want)
		}
	}
}

// P6.1
func TestSum(t *testing.T) {
	for _, s := range texts() {
		checkSum(t, s)
	}
}

// P6.1
func TestSumOfTwoBytes(t *testing.T) {
	for a := range 256 {
		for b := range 256 {
			s := string([]byte{byte(a), byte(b)})
			if got, want := usher.Sum(s), library(s); got != want {
				t.Fatalf("Sum(%q) = %d, want %d", s, got, want)
			}
		}
	}
}

// P6.1
func TestSumMixed(t *testing.T) {
	r := seed
	for range 2000 {
		checkSum(t, r.text(70))
	}
}

// P6.1: a long text, of which each byte counts, the last one too.
func TestSumLong(t *testing.T) {
	r := seed
	b := make([]byte, 1<<20+3)
	for i := range b {
		b[i] = byte(r.below(256))
	}
	s := string(b)
	whole := usher.Sum(s)
	if want := library(s); whole != want {
		t.Fatalf("Sum of %d bytes = %d, want %d", len(s), whole, want)
	}
	for _, i := range []int{0, 1, 255, 256, 65535, 65536, 1 << 20, len(b) - 1} {
		b[i] ^= 128
		other := string(b)
		b[i] ^= 128
		if got, want := usher.Sum(other), library(other); got != want || got == whole {
			t.Errorf("Sum with another byte %d = %d, want %d, not %d", i, got, want, whole)
		}
	}
}

// P6.1: of 0 bytes nothing is added, but they are multiplied.
func TestSumOfZeros(t *testing.T) {
	seen := map[uint64]int{}
	for n := range 1000 {
		h := usher.Sum(strings.Repeat("\x00", n))
		if was, there := seen[h]; there {
			t.Errorf("%d and %d bytes 0 have the same hash %d", was, n, h)
		}
		seen[h] = n
		checkSum(t, strings.Repeat("\x00", n))
	}
}

// P6.1: one byte behind beginnings small enough to be worked out by hand, and beyond 64 bits.
func TestMoreByHand(t *testing.T) {
	for _, c := range []struct {
		h    uint64
		s    string
		want uint64
	}{
		{0, "", 0},
		{7, "", 7},
		{math.MaxUint64, "", math.MaxUint64},
		{0, "\x00", 0},
		{0, strings.Repeat("\x00", 100), 0},
		{0, "\x01", 1099511628211},
		{1, "\x00", 1099511628211},
		{1, "\x01", 0},
		{3, "\x01", 2 * 1099511628211},
		{97, "a", 0},
		{255, "\xff", 0},
		{0, "\xff", 255 * 1099511628211},
		{256, "\xff", 511 * 1099511628211},
		// -1 times the prime, and what is left of 2^63 times an odd number.
		{math.MaxUint64, "\x00", math.MaxUint64 - 1099511628211 + 1},
		{1 << 63, "\x00", 1 << 63},
		{1<<63 + 1, "\x01", 1 << 63},
		// 2^24 times the prime is the first power of two beyond 64 bits: 2^64 + 0x1b3 * 2^24.
		{1 << 24, "\x00", 0x1b3 << 24},
		{1 << 23, "\x00", 1<<63 + 0x1b3<<23},
	} {
		if got := usher.More(c.h, c.s); got != c.want {
			t.Errorf("More(%d, %.20q) = %d, want %d", c.h, c.s, got, c.want)
		}
	}
}

// P6.1
func TestMore(t *testing.T) {
	for _, h := range beginnings {
		for _, s := range texts() {
			checkMore(t, h, s)
		}
	}
}

// P6.1
func TestMoreMixed(t *testing.T) {
	r := seed
	for range 2000 {
		checkMore(t, r.next(), r.text(40))
	}
}

// P6.1
func TestFlow(t *testing.T) {
	for _, schema := range texts() {
		for _, key := range texts() {
			checkFlow(t, schema, key)
		}
	}
}

// P6.1: written out; the byte 0 is there when one of them is empty, or both are.
func TestFlowExamples(t *testing.T) {
	for _, c := range []struct {
		schema, key string
		want        uint64
	}{
		{"", "", 0xaf63bd4c8601b7df},
		{"a", "", 0x089be207b544f1e4},
		{"foobar", "", 0x34531ca7168b8f38},
		{"", "a", usher.Sum("\x00a")},
		{"a", "b", usher.Sum("a\x00b")},
		{"b", "a", usher.Sum("b\x00a")},
		{"a\x00b", "c", usher.Sum("a\x00b\x00c")},
		{"a", "b\x00c", usher.Sum("a\x00b\x00c")},
	} {
		if got := usher.Flow(c.schema, c.key); got != c.want {
			t.Errorf("Flow(%q, %q) = %d, want %d", c.schema, c.key, got, c.want)
		}
	}
}

// P6.1: the byte between tells flows apart whose texts in a row are the same.
func TestFlowCutElsewhere(t *testing.T) {
	seen := map[uint64]int{}
	s := "abcdefgh"
	for i := range len(s) + 1 {
		h := usher.Flow(s[:i], s[i:])
		if was, there := seen[h]; there {
			t.Errorf("cut at %d and at %d the hash is %d", was, i, h)
		}
		seen[h] = i
	}
}

// P6.1
func TestFlowMixed(t *testing.T) {
	r := seed
	for range 2000 {
		checkFlow(t, r.text(40), r.text(40))
	}
}

// P6.2: cut at each of its places, and into single bytes, a text has one hash.
func TestMoreBehindSum(t *testing.T) {
	r := seed
	list := texts()
	for range 300 {
		list = append(list, r.text(60))
	}
	for _, s := range list {
		whole := usher.Sum(s)
		step := usher.Sum("")
		for i := range len(s) + 1 {
			if got := usher.More(usher.Sum(s[:i]), s[i:]); got != whole {
				t.Errorf("%.40q cut at %d: %d, want %d", s, i, got, whole)
			}
			if i < len(s) {
				step = usher.More(step, s[i:i+1])
			}
		}
		if step != whole {
			t.Errorf("%.40q byte by byte: %d, want %d", s, step, whole)
		}
	}
}

// P6.2: the same behind any beginning.
func TestMoreBehindMore(t *testing.T) {
	s := "usher \x00\x80\xff é"
	for _, h := range beginnings {
		whole := usher.More(h, s)
		for i := range len(s) + 1 {
			if got := usher.More(usher.More(h, s[:i]), s[i:]); got != whole {
				t.Errorf("More(%d, %q) cut at %d: %d, want %d", h, s, i, got, whole)
			}
		}
	}
}

// P6.2
func TestLastByteIsAnother(t *testing.T) {
	r := seed
	list := texts()
	for range 300 {
		list = append(list, r.text(60))
	}
	for _, s := range list {
		seen := map[uint64]int{}
		for c := range 256 {
			h := usher.Sum(s + string([]byte{byte(c)}))
			if was, there := seen[h]; there {
				t.Errorf("%.40q with the last byte %d and %d: both %d", s, was, c, h)
			}
			seen[h] = c
		}
	}
}

// P6.2: so it is of flows, whose key is last; of a schema the byte 0 is.
func TestLastByteOfAFlowIsAnother(t *testing.T) {
	for _, schema := range []string{"", "a", "\x00", "\xff", "catch-all"} {
		seen := map[uint64]int{usher.Flow(schema, ""): -1}
		for c := range 256 {
			h := usher.Flow(schema, string([]byte{byte(c)}))
			if was, there := seen[h]; there {
				t.Errorf("schema %q with the keys %d and %d: both %d", schema, was, c, h)
			}
			seen[h] = c
		}
	}
}

// P6.2
func TestOtherBeginnings(t *testing.T) {
	r := seed
	starts := append([]uint64{}, beginnings...)
	for bit := range 64 {
		starts = append(starts, 3^1<<bit, begin^1<<bit)
	}
	for range 100 {
		starts = append(starts, r.next())
	}
	for _, s := range texts() {
		seen := map[uint64]uint64{}
		for _, h := range starts {
			got := usher.More(h, s)
			if was, there := seen[got]; there && was != h {
				t.Errorf("%.40q from %d and from %d: both %d", s, was, h, got)
			}
			seen[got] = h
		}
	}
}

// P6.2: what was hashed ahead is found again by going back, since the prime is odd.
func TestMoreCanBeGoneBack(t *testing.T) {
	two64 := new(big.Int).Lsh(big.NewInt(1), 64)
	back := new(big.Int).ModInverse(big.NewInt(1099511628211), two64).Uint64()
	r := seed
	for range 1000 {
		h, s := r.next(), r.text(40)
		got := usher.More(h, s)
		for i := len(s) - 1; i >= 0; i-- {
			got = got*back ^ uint64(s[i])
		}
		if got != h {
			t.Errorf("More(%d, %q) gone back is %d", h, s, got)
		}
	}
}

// Rule 4: the same arguments have the same hash, whatever was hashed between.
func TestAgain(t *testing.T) {
	sum, more, flow := usher.Sum("x"), usher.More(5, "x"), usher.Flow("x", "y")
	usher.Sum("other")
	usher.More(9, "other")
	usher.Flow("other", "one")
	if usher.Sum("x") != sum || usher.More(5, "x") != more || usher.Flow("x", "y") != flow {
		t.Error("another hash the second time")
	}
}
