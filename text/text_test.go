package text_test

import (
	"math"
	"slices"
	"strings"
	"testing"
	"unicode/utf8"

	"oxbow/api"
	"oxbow/text"
)

// edges are the code points at which the form changes, each with its bytes written out.
var edges = []struct {
	point int
	bytes string
}{
	{0, "\x00"},
	{97, "\x61"},
	{127, "\x7f"},
	{128, "\xc2\x80"},
	{233, "\xc3\xa9"},
	{2047, "\xdf\xbf"},
	{2048, "\xe0\xa0\x80"},
	{8364, "\xe2\x82\xac"},
	{55295, "\xed\x9f\xbf"},
	{57344, "\xee\x80\x80"},
	{65535, "\xef\xbf\xbf"},
	{65536, "\xf0\x90\x80\x80"},
	{128512, "\xf0\x9f\x98\x80"},
	{1114111, "\xf4\x8f\xbf\xbf"},
}

// wrong are texts that are not valid.
var wrong = []string{
	"\x80", "\xbf", "\xc0", "\xc2", "\xdf", "\xe0", "\xef", "\xf0", "\xf4", "\xf5", "\xf8", "\xfc", "\xfe", "\xff",
	"\xc0\x80", "\xc1\xbf", // two bytes for what one says
	"\xe0\x80\x80", "\xe0\x9f\xbf", // three for what two say
	"\xf0\x80\x80\x80", "\xf0\x8f\xbf\xbf", // four for what three say
	"\xed\xa0\x80", "\xed\xbf\xbf", // 55296 and 57343
	"\xf4\x90\x80\x80", "\xf7\xbf\xbf\xbf", // 1114112 and above
	"\xf8\x88\x80\x80\x80", "\xfc\x84\x80\x80\x80\x80", // five and six bytes
	"\xe2\x82", "\xf0\x9f\x98", "\xf0\x9f", // cut
	"\xc3\x29", "\xc3\xc3", "\xe2\x28\xac", "\xe2\x82\x28", "\xf0\x28\x98\x80", "\xf0\x9f\x28\x80", "\xf0\x9f\x98\x28", // a byte behind the first one that is none
	"\x80\x80", "\xa9\xc3", "\xc3\xa9\xa9", // a byte too much
}

// sample has code points of each size.
const sample = "aé€😀\x00b\u07ff\u0800\U0010ffff\ud7ff\ue000z"

func refused(t *testing.T, s string) {
	t.Helper()
	if l, ok := text.Points(s); ok || len(l) != 0 {
		t.Errorf("P1.1: Points(%q) = %d, %v", s, l, ok)
	}
	if n := text.Len(s); n != -1 {
		t.Errorf("P1.2: Len(%q) = %d", s, n)
	}
	for _, place := range [][2]int{{0, 0}, {0, 1}, {-1, 0}, {1, 0}, {0, 99}} {
		if part, e := text.Cut(s, place[0], place[1]); part != "" || e != api.ErrText {
			t.Errorf("P1.3: Cut(%q, %d, %d) = %q, %d", s, place[0], place[1], part, e)
		}
	}
}

func TestEdgesBothWays(t *testing.T) {
	var all []int
	var bytes string
	for _, c := range edges {
		if l, ok := text.Points(c.bytes); !ok || !slices.Equal(l, []int{c.point}) {
			t.Errorf("P1.1: Points(%q) = %d, %v", c.bytes, l, ok)
		}
		if s, ok := text.Text([]int{c.point}); !ok || s != c.bytes {
			t.Errorf("P1.1: Text(%d) = %q, %v", c.point, s, ok)
		}
		if n := text.Len(c.bytes); n != 1 {
			t.Errorf("P1.2: Len(%q) = %d", c.bytes, n)
		}
		all, bytes = append(all, c.point), bytes+c.bytes
	}
	if l, ok := text.Points(bytes); !ok || !slices.Equal(l, all) {
		t.Errorf("P1.1: Points(%q) = %d, %v", bytes, l, ok)
	}
	if s, ok := text.Text(all); !ok || s != bytes {
		t.Errorf("P1.1: Text(%d) = %q, %v", all, s, ok)
	}
	if n := text.Len(bytes); n != len(all) {
		t.Errorf("P1.2: Len(%q) = %d", bytes, n)
	}
}

func TestEmpty(t *testing.T) {
	if l, ok := text.Points(""); !ok || len(l) != 0 {
		t.Errorf("P1.1: Points of nothing: %d, %v", l, ok)
	}
	for _, l := range [][]int{nil, {}} {
		if s, ok := text.Text(l); !ok || s != "" {
			t.Errorf("P1.1: Text of nothing: %q, %v", s, ok)
		}
	}
	if n := text.Len(""); n != 0 {
		t.Errorf("P1.2: Len of nothing: %d", n)
	}
}

func TestTextRefusesWhatIsNoCodePoint(t *testing.T) {
	for _, n := range []int{-1, -97, math.MinInt, 55296, 56000, 57343, 1114112, math.MaxInt32, 1<<32 + 97, math.MaxInt} {
		for _, l := range [][]int{{n}, {n, 97}, {97, n}, {97, n, 98}} {
			if s, ok := text.Text(l); ok || s != "" {
				t.Errorf("P1.1: Text(%d) = %q, %v", l, s, ok)
			}
		}
	}
}

func TestNotValid(t *testing.T) {
	for _, s := range wrong {
		refused(t, s)
		refused(t, "aé"+s)
		refused(t, s+"b")
		refused(t, "€"+s+"😀")
	}
}

func TestEveryCodePoint(t *testing.T) {
	for n := range 1114112 {
		s, ok := text.Text([]int{n})
		if 55296 <= n && n <= 57343 {
			if ok || s != "" {
				t.Fatalf("P1.1: Text(%d) = %q, %v", n, s, ok)
			}
			continue
		}
		if !ok || s != string(rune(n)) {
			t.Fatalf("P1.1: Text(%d) = %q, %v", n, s, ok)
		}
		if l, ok := text.Points(s); !ok || len(l) != 1 || l[0] != n {
			t.Fatalf("P1.5: Points(Text(%d)) = %d, %v", n, l, ok)
		}
	}
}

// TestEveryShape goes through all rows of four bytes that stand at an edge of some shape; with the empty ones among them, also the shorter rows.
func TestEveryShape(t *testing.T) {
	bytes := []string{"", "\x00", "\x41", "\x7f", "\x80", "\x8f", "\x90", "\x9f", "\xa0", "\xbf", "\xc0", "\xc1", "\xc2", "\xdf", "\xe0", "\xe1", "\xec", "\xed", "\xee", "\xef", "\xf0", "\xf1", "\xf3", "\xf4", "\xf5", "\xf7", "\xf8", "\xff"}
	for _, a := range bytes {
		for _, b := range bytes {
			for _, c := range bytes {
				for _, d := range bytes {
					s := a + b + c + d
					l, ok := text.Points(s)
					if ok != utf8.ValidString(s) {
						t.Fatalf("P1.1: Points(%q) = %d, %v", s, l, ok)
					}
					want := -1
					if ok {
						want = utf8.RuneCountInString(s)
					}
					if n := text.Len(s); n != want || ok && len(l) != n || !ok && len(l) != 0 {
						t.Fatalf("P1.2: Len(%q) = %d; %d", s, n, l)
					}
					if back, whole := text.Text(l); ok && (!whole || back != s) {
						t.Fatalf("P1.5: Text(Points(%q)) = %q", s, back)
					}
				}
			}
		}
	}
}

func TestCut(t *testing.T) {
	for _, c := range []struct {
		s        string
		from, to int
		want     string
		e        api.Errno
	}{
		{"aé€", 1, 2, "é", api.OK},
		{"aé€", 0, 3, "aé€", api.OK},
		{"aé€", 2, 3, "€", api.OK},
		{"aé€", 3, 3, "", api.OK},
		{"a", 1, 1, "", api.OK},
		{"", 0, 0, "", api.OK},
		{"a", 0, 2, "", api.ErrArg},
		{"aé€", 0, 4, "", api.ErrArg}, // four bytes there are, four code points there are not
		{"aé€", 4, 4, "", api.ErrArg},
		{"aé€", -1, 2, "", api.ErrArg},
		{"aé€", -1, -1, "", api.ErrArg},
		{"aé€", 2, 1, "", api.ErrArg},
		{"aé€", 1, -1, "", api.ErrArg},
		{"aé€", math.MinInt, math.MaxInt, "", api.ErrArg},
		{"aé€", math.MaxInt, math.MaxInt, "", api.ErrArg},
		{"aé€", 0, math.MinInt, "", api.ErrArg},
		{"", 0, 1, "", api.ErrArg},
		{"\xff", 0, 0, "", api.ErrText},
		{"a\xff", 0, 1, "", api.ErrText}, // what is cut out is valid, the whole is not
		{"\xff", -1, 9, "", api.ErrText}, // R2: ErrText is named first
	} {
		if s, e := text.Cut(c.s, c.from, c.to); s != c.want || e != c.e {
			t.Errorf("P1.3: Cut(%q, %d, %d) = %q, %d", c.s, c.from, c.to, s, e)
		}
	}
}

func TestCompare(t *testing.T) {
	rising := []string{"", "\x00", "\x00\x00", "a", "a\x00", "ab", "abc", "b", "\x7f", "\x80", "é", "\u07ff", "\u0800", "€", "\ue000", "\uffff", "😀", "\U0010ffff", "\xff", "\xff\x00", "\xff\xff"}
	for i, a := range rising {
		for j, b := range rising {
			want := 0
			if i < j {
				want = -1
			} else if i > j {
				want = 1
			}
			if got := text.Compare(a, b); got != want {
				t.Errorf("P1.4: Compare(%q, %q) = %d", a, b, got)
			}
		}
	}
}

// TestCompareIsByCodePoints holds the order of valid texts against that of their code points.
func TestCompareIsByCodePoints(t *testing.T) {
	for _, a := range edges {
		for _, b := range edges {
			want := slices.Compare([]int{a.point, 1}, []int{b.point})
			if got := text.Compare(a.bytes+"\x01", b.bytes); got != want {
				t.Errorf("P1.4: %d, 1 and %d: %d", a.point, b.point, got)
			}
		}
	}
}

func TestThereAndBack(t *testing.T) {
	points, ok := text.Points(sample)
	if !ok {
		t.Fatal("P1.1: the sample is valid")
	}
	if s, ok := text.Text(points); !ok || s != sample {
		t.Errorf("P1.5: %q, %v", s, ok)
	}
	if l, ok := text.Points(strings.Repeat(sample, 500)); !ok || len(l) != 500*len(points) || !slices.Equal(l[:len(points)], points) {
		t.Errorf("P1.5: %d, %v", len(l), ok)
	}
}

func TestPartsAddUp(t *testing.T) {
	n := text.Len(sample)
	points, _ := text.Points(sample)
	for i := range n + 1 {
		for j := i; j <= n; j++ {
			a, e1 := text.Cut(sample, 0, i)
			b, e2 := text.Cut(sample, i, j)
			c, e3 := text.Cut(sample, j, n)
			if e1 != api.OK || e2 != api.OK || e3 != api.OK || a+b+c != sample {
				t.Fatalf("P1.5: cut at %d and %d: %q, %q, %q", i, j, a, b, c)
			}
			if text.Len(a) != i || text.Len(b) != j-i || text.Len(c) != n-j {
				t.Fatalf("P1.5: lengths at %d and %d: %q, %q, %q", i, j, a, b, c)
			}
			if l, ok := text.Points(b); !ok || !slices.Equal(l, points[i:j]) {
				t.Fatalf("P1.3: Cut from %d to %d: %d", i, j, l)
			}
		}
	}
}

func TestNothingIsShared(t *testing.T) {
	l := []int{97, 233}
	s, _ := text.Text(l)
	if !slices.Equal(l, []int{97, 233}) {
		t.Errorf("R5: %d", l)
	}
	l[0] = 98
	if s != "aé" {
		t.Errorf("R5: %q", s)
	}
	a, _ := text.Points("aé")
	b, _ := text.Points("aé")
	for i := range a[:cap(a)] {
		a[:cap(a)][i] = 7
	}
	if !slices.Equal(b, []int{97, 233}) {
		t.Errorf("R5: %d", b)
	}
}
