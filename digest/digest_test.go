package digest_test

import (
	"fmt"
	"hash/fnv"
	"math/rand"
	"strings"
	"testing"

	"oxbow/digest"
)

// byHand is G1, word by word.
func byHand(sum uint32, s string) uint32 {
	n := uint64(sum)
	for i := 0; i < len(s); i++ {
		n = n - n%256 + (n%256 ^ uint64(s[i]))
		n = n * 16777619 % (1 << 32)
	}
	return uint32(n)
}

// edges are numbers with which an Extend may begin.
var edges = []uint32{0, 1, 0xff, 0x100, 0x7fffffff, 0x80000000, 0x80000001, 0xff000000, 0xffffff00, 0xfffffffe, 0xffffffff, 2166136261, 16777619, 0x12345678, 0xdeadbeef}

func anyText(r *rand.Rand, most int) string {
	b := make([]byte, r.Intn(most+1))
	r.Read(b)
	return string(b)
}

// texts are the edges, and some others.
func texts() []string {
	r := rand.New(rand.NewSource(1))
	l := []string{"", "\x00", "\xff", "\x00\x00", "\xff\xff\xff\xff\xff", "\x80", "\x7f", "a", "é€😀", strings.Repeat("\x00", 300), strings.Repeat("\xff", 300), strings.Repeat("oxbow", 6000)}
	for range 300 {
		l = append(l, anyText(r, 200))
	}
	return l
}

// TestExamples is the chapter's own table.
func TestExamples(t *testing.T) {
	for s, want := range map[string]uint32{"": 2166136261, "a": 0xe40c292c, "foobar": 0xbf9cf968} {
		if n := digest.Sum(s); n != want {
			t.Errorf("Sum(%q): %x, want %x", s, n, want)
		}
	}
	if digest.Sum("") != 0x811c9dc5 {
		t.Error("Sum of none, in hexadecimal")
	}
}

func TestSum(t *testing.T) {
	for _, s := range texts() {
		h := fnv.New32a()
		h.Write([]byte(s))
		if n := digest.Sum(s); n != h.Sum32() || n != byHand(2166136261, s) {
			t.Errorf("G1: Sum(%.40q): %x, want %x", s, n, h.Sum32())
		}
	}
}

func TestExtend(t *testing.T) {
	for _, sum := range edges {
		if n := digest.Extend(sum, ""); n != sum {
			t.Errorf("G1: Extend(%x) by nothing: %x", sum, n)
		}
		for b := range 256 {
			s := string([]byte{byte(b)})
			if n := digest.Extend(sum, s); n != byHand(sum, s) {
				t.Errorf("G1: Extend(%x, %q): %x, want %x", sum, s, n, byHand(sum, s))
			}
		}
		for _, s := range texts() {
			if n := digest.Extend(sum, s); n != byHand(sum, s) {
				t.Errorf("G1: Extend(%x, %.40q): %x, want %x", sum, s, n, byHand(sum, s))
			}
		}
	}
}

func TestName(t *testing.T) {
	for sum, want := range map[uint32]string{
		0:          "\x00\x00\x00\x00",
		1:          "\x00\x00\x00\x01",
		0x01020384: "\x01\x02\x03\x84",
		0x80000000: "\x80\x00\x00\x00",
		0xffffffff: "\xff\xff\xff\xff",
		0xe40c292c: "\xe4\x0c\x29\x2c",
		0x00ff0000: "\x00\xff\x00\x00",
		0x0000ff00: "\x00\x00\xff\x00",
	} {
		if s := digest.Name(sum); s != want {
			t.Errorf("G2: Name(%x): %q, want %q", sum, s, want)
		}
	}
	r := rand.New(rand.NewSource(2))
	for range 1000 {
		sum := r.Uint32()
		if s := fmt.Sprintf("%x", digest.Name(sum)); s != fmt.Sprintf("%08x", sum) {
			t.Errorf("G2: Name(%x): %s", sum, s)
		}
	}
}

// TestInPieces: texts cut at every place, in two and in three.
func TestInPieces(t *testing.T) {
	for _, s := range texts() {
		if len(s) > 300 {
			s = s[:300]
		}
		for i := range len(s) + 1 {
			if n := digest.Extend(digest.Sum(s[:i]), s[i:]); n != digest.Sum(s) {
				t.Fatalf("P7.1: %q, cut at %d: %x", s, i, n)
			}
			mid := i + (len(s)-i)/2
			if n := digest.Extend(digest.Extend(digest.Sum(s[:i]), s[i:mid]), s[mid:]); n != digest.Sum(s) {
				t.Fatalf("P7.1: %q, cut at %d and %d: %x", s, i, mid, n)
			}
		}
	}
}

// TestUnlikeNumbers: unlike numbers stay so, above all those that differ in one bit.
func TestUnlikeNumbers(t *testing.T) {
	r := rand.New(rand.NewSource(3))
	for _, s := range texts() {
		a := edges[r.Intn(len(edges))]
		for bit := range 32 {
			b := a ^ 1<<bit
			if digest.Extend(a, s) == digest.Extend(b, s) {
				t.Errorf("P7.2: %x and %x by %.40q", a, b, s)
			}
		}
		seen := map[uint32]uint32{}
		for _, b := range edges {
			n := digest.Extend(b, s)
			if other, is := seen[n]; is {
				t.Errorf("P7.2: %x and %x by %.40q", b, other, s)
			}
			seen[n] = b
		}
	}
}

// TestOneByte: texts of one length that differ in one byte alone have unlike Sums.
func TestOneByte(t *testing.T) {
	for _, s := range []string{"\x00", "\xff", "a", "foobar", "costarring", strings.Repeat("\x00", 64), strings.Repeat("\xff", 20)} {
		for i := range len(s) {
			seen := map[uint32]int{}
			for b := range 256 {
				n := digest.Sum(s[:i] + string([]byte{byte(b)}) + s[i+1:])
				if other, is := seen[n]; is {
					t.Errorf("P7.2: %q with the bytes %d and %d at %d", s, b, other, i)
				}
				seen[n] = b
			}
		}
	}
}

func TestCollisions(t *testing.T) {
	for _, x := range [][2]string{{"costarring", "liquid"}, {"declinate", "macallums"}} {
		for _, s := range texts() {
			if digest.Sum(x[0]+s) != digest.Sum(x[1]+s) {
				t.Errorf("P7.3: %q and %q with %.40q behind both", x[0], x[1], s)
			}
		}
	}
	if digest.Sum("costarring") != 0x5e4daa9d || digest.Sum("costarring") == digest.Sum("declinate") {
		t.Error("P7.3: the pairs' own Sums")
	}
}
