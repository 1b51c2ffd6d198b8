package diff_test

import (
	"fmt"
	"math/rand"
	"slices"
	"strings"
	"testing"
	"unsafe"

	"oxbow/api"
	"oxbow/delta"
	"oxbow/diff"
)

func keep(n int) api.Op        { return api.Op{Kind: api.OpKeep, N: n} }
func gone(n int) api.Op        { return api.Op{Kind: api.OpDelete, N: n} }
func ins(s string) api.Op      { return api.Op{Kind: api.OpInsert, Text: s} }
func ops(l ...api.Op) []api.Op { return l }

// show tells a delta in a line, however long it is.
func show(d []api.Op) string {
	const most = 12
	var l []string
	for _, o := range d[:min(most, len(d))] {
		l = append(l, fmt.Sprintf("%d %d %.40q", o.Kind, o.N, o.Text))
	}
	if len(d) > most {
		l = append(l, fmt.Sprintf(".. %d in all", len(d)))
	}
	return "[" + strings.Join(l, ", ") + "]"
}

// told is P11.2's delta by its words, one operation a code point; common tells the common length of what is left of both.
func told(a []rune, b []rune, common func(a []rune, b []rune) int) []api.Op {
	var d []api.Op
	for len(a) > 0 || len(b) > 0 {
		if len(a) > 0 && len(b) > 0 && a[0] == b[0] {
			d, a, b = append(d, keep(1)), a[1:], b[1:]
			continue
		}
		deletes := len(b) == 0
		if len(a) > 0 && len(b) > 0 {
			without, other := common(a[1:], b), common(a, b[1:])
			deletes = without >= other
		}
		if deletes {
			d, a = append(d, gone(1)), a[1:]
		} else {
			d, b = append(d, ins(string(b[0]))), b[1:]
		}
	}
	d, _ = delta.Normal(d)
	return d
}

// kept tells how many code points a delta keeps.
func kept(d []api.Op) int {
	n := 0
	for _, o := range d {
		if o.Kind == api.OpKeep {
			n += o.N
		}
	}
	return n
}

// hold holds that two texts have this common length, and this delta.
func hold(t *testing.T, a string, b string, n int, want []api.Op) {
	t.Helper()
	if got, e := diff.Common(a, b); got != n || e != api.OK {
		t.Errorf("P11.1: Common(%.40q, %.40q): %d, %d, want %d", a, b, got, e, n)
	}
	if got, e := diff.Common(b, a); got != n || e != api.OK {
		t.Errorf("P11.3: Common(%.40q, %.40q): %d, %d, want %d", b, a, got, e, n)
	}
	d, e := diff.Diff(a, b)
	if !slices.Equal(d, want) || e != api.OK {
		t.Errorf("P11.2: Diff(%.40q, %.40q): %s, %d, want %s", a, b, show(d), e, show(want))
	}
	if s, e := delta.Apply(a, d); s != b || e != api.OK {
		t.Errorf("P11.3: Diff(%.40q, %.40q), applied: %.40q, %d", a, b, s, e)
	}
	if kept(d) != n {
		t.Errorf("P11.3: Diff(%.40q, %.40q) keeps %d, want %d", a, b, kept(d), n)
	}
}

// refused holds that two texts end both calls with this error, and with nothing beside it.
func refused(t *testing.T, a string, b string, want api.Errno) {
	t.Helper()
	if n, e := diff.Common(a, b); n != 0 || e != want {
		t.Errorf("P11.1: Common(%.40q, %.40q): %d, %d, want %d", a, b, n, e, want)
	}
	if d, e := diff.Diff(a, b); len(d) != 0 || e != want {
		t.Errorf("P11.2: Diff(%.40q, %.40q): %s, %d, want %d", a, b, show(d), e, want)
	}
}

func TestExamples(t *testing.T) {
	hold(t, "abc", "axc", 2, ops(keep(1), ins("x"), gone(1), keep(1)))
	hold(t, "", "", 0, nil)
	hold(t, "ab", "ba", 1, ops(gone(1), keep(1), ins("a")))
}

func TestByHand(t *testing.T) {
	for _, c := range []struct {
		a, b string
		n    int
		want []api.Op
	}{
		{"", "é", 0, ops(ins("é"))},
		{"", "a€b", 0, ops(ins("a€b"))},
		{"a", "", 0, ops(gone(1))},
		{"é€😀", "", 0, ops(gone(3))},
		{"a", "a", 1, ops(keep(1))},
		{"aé€😀", "aé€😀", 4, ops(keep(4))},
		{"\x00\ufffd", "\x00\ufffd", 2, ops(keep(2))},
		{"a", "b", 0, ops(ins("b"), gone(1))},
		{"abc", "xy", 0, ops(ins("xy"), gone(3))},
		{"é", "©", 0, ops(ins("©"), gone(1))}, // the last byte is the same
		{"é", "è", 0, ops(ins("è"), gone(1))}, // the first byte is the same
		{"€é", "é€", 1, ops(gone(1), keep(1), ins("€"))},
		// Putting in leaves more.
		{"b", "ab", 1, ops(ins("a"), keep(1))},
		{"b", "aba", 1, ops(ins("a"), keep(1), ins("a"))},
		{"bcd", "abc", 2, ops(ins("a"), keep(2), gone(1))},
		// Deleting leaves more.
		{"ab", "b", 1, ops(gone(1), keep(1))},
		{"abc", "bcd", 2, ops(gone(1), keep(2), ins("d"))},
		// Both leave the same: it is deleted.
		{"abc", "acb", 2, ops(keep(1), gone(1), keep(1), ins("b"))},
		{"ab", "cba", 1, ops(ins("c"), gone(1), keep(1), ins("a"))},
		{"cba", "ab", 1, ops(gone(2), keep(1), ins("b"))},
		{"abab", "baba", 3, ops(gone(1), keep(3), ins("a"))},
		{"abcd", "cdab", 2, ops(gone(2), keep(2), ins("ab"))},
		// The same code points are kept, though others would do as well.
		{"aa", "a", 1, ops(keep(1), gone(1))},
		{"a", "aa", 1, ops(keep(1), ins("a"))},
		{"aba", "a", 1, ops(keep(1), gone(2))},
		{"a", "aba", 1, ops(keep(1), ins("ba"))},
	} {
		hold(t, c.a, c.b, c.n, c.want)
	}
}

// rows are all texts of at most so many of these code points, the shorter ones first.
func rows(points string, most int) [][]rune {
	all := [][]rune{nil}
	for at := 0; at < len(all); at++ {
		if len(all[at]) == most {
			break
		}
		for _, p := range points {
			all = append(all, append(slices.Clone(all[at]), p))
		}
	}
	return all
}

// parts are all rows that can be had of one by leaving some out.
func parts(row []rune) map[string]int {
	all := map[string]int{}
	for mask := range 1 << len(row) {
		var l []rune
		for i, p := range row {
			if mask>>i&1 == 1 {
				l = append(l, p)
			}
		}
		all[string(l)] = len(l)
	}
	return all
}

// TestAllShortTexts holds both calls against the words of the chapter, the common length by all rows that can be had of both.
func TestAllShortTexts(t *testing.T) {
	for _, c := range []struct {
		points string
		most   int
	}{
		{"ab", 6}, {"abc", 4}, {"aé€😀", 3}, {"é©è", 4}, {"\x00\ufffd\U0010ffff\ud7ff", 3}, {"€\u20ad\u10ac", 3},
	} {
		all := rows(c.points, c.most)
		of := map[string]map[string]int{}
		for _, row := range all {
			of[string(row)] = parts(row)
		}
		known := map[[2]string]int{}
		common := func(a []rune, b []rune) int {
			pair := [2]string{string(a), string(b)}
			if n, ok := known[pair]; ok {
				return n
			}
			n := 0
			for s, length := range of[pair[0]] {
				if _, ok := of[pair[1]][s]; ok {
					n = max(n, length)
				}
			}
			known[pair] = n
			return n
		}
		for _, a := range all {
			for _, b := range all {
				hold(t, string(a), string(b), common(a, b), told(a, b, common))
				if t.Failed() {
					return
				}
			}
		}
	}
}

// held holds long texts against the words of the chapter, the common lengths by a table of what stands ahead of each place of the texts turned round.
func held(t *testing.T, a string, b string) {
	t.Helper()
	x, y := []rune(a), []rune(b)
	table := make([][]int, len(x)+1)
	table[0] = make([]int, len(y)+1)
	for i := 1; i <= len(x); i++ {
		table[i] = make([]int, len(y)+1)
		for j := 1; j <= len(y); j++ {
			n := max(table[i-1][j], table[i][j-1])
			if x[len(x)-i] == y[len(y)-j] {
				n = max(n, table[i-1][j-1]+1)
			}
			table[i][j] = n
		}
	}
	common := func(a []rune, b []rune) int { return table[len(a)][len(b)] }
	hold(t, a, b, common(x, y), told(x, y, common))
}

// some is a text of n of these code points.
func some(r *rand.Rand, points string, n int) string {
	from := []rune(points)
	var l []rune
	for range n {
		l = append(l, from[r.Intn(len(from))])
	}
	return string(l)
}

// changed is a text with a few code points taken out, put in, or moved.
func changed(r *rand.Rand, s string, points string, times int) string {
	l := []rune(s)
	for range times {
		at := r.Intn(len(l) + 1)
		switch r.Intn(3) {
		case 0:
			l = slices.Delete(l, at, min(len(l), at+1+r.Intn(3)))
		case 1:
			l = slices.Insert(l, at, []rune(some(r, points, 1+r.Intn(3)))...)
		case 2:
			l = append(slices.Clone(l[at:]), l[:at]...)
		}
	}
	return string(l[:min(len(l), 1000)])
}

func TestLongTexts(t *testing.T) {
	r := rand.New(rand.NewSource(11))
	alphabets := []string{"ab", "abcdefgh", "aé€😀", "é©èa", "abcdefghijklmnopqrstuvwxyzäöü€😀"}
	for i := range 60 {
		points := alphabets[i%len(alphabets)]
		a := some(r, points, r.Intn(300))
		held(t, a, some(r, points, r.Intn(300)))
		held(t, a, changed(r, a, points, 1+r.Intn(6)))
		if t.Failed() {
			return
		}
	}
	for _, points := range alphabets {
		a := some(r, points, 1000)
		held(t, a, some(r, points, 1000))
		held(t, a, changed(r, a, points, 8))
		held(t, a, some(r, points, 1))
		held(t, some(r, points, 1), a)
		if t.Failed() {
			return
		}
	}
}

func TestGreatestTexts(t *testing.T) {
	for _, p := range []string{"a", "é", "€", "😀"} {
		full := strings.Repeat(p, 1000)
		other := strings.Repeat("b", 1000)
		hold(t, full, full, 1000, ops(keep(1000)))
		hold(t, full, "", 0, ops(gone(1000)))
		hold(t, "", full, 0, ops(ins(full)))
		hold(t, full, other, 0, ops(ins(other), gone(1000)))
		hold(t, other, full, 0, ops(ins(full), gone(1000)))
		hold(t, full, strings.Repeat(p, 999), 999, ops(keep(999), gone(1)))
		hold(t, strings.Repeat(p, 999), full, 999, ops(keep(999), ins(p)))
		hold(t, full, "b"+strings.Repeat(p, 999), 999, ops(ins("b"), gone(1), keep(999)))
		hold(t, strings.Repeat(p, 999)+"b", full, 999, ops(keep(999), ins(p), gone(1)))
	}
}

func TestTooLong(t *testing.T) {
	for _, p := range []string{"a", "é", "€", "😀", "\x00"} {
		long := strings.Repeat(p, 1001)
		for _, s := range []string{"", "b", p, strings.Repeat(p, 1000), long, strings.Repeat("b", 1000), strings.Repeat("b", 5000)} {
			refused(t, long, s, api.ErrDeltaLength)
			refused(t, s, long, api.ErrDeltaLength)
		}
	}
	refused(t, strings.Repeat("a", 1<<20), "", api.ErrDeltaLength)
	refused(t, "", strings.Repeat("a", 1<<20), api.ErrDeltaLength)
}

func TestNotValid(t *testing.T) {
	wrong := []string{"\xff", "a\xff", "\xffa", "\xc3", "é\xc3", "\xa9", "\xc0\x80", "\xed\xa0\x80", "\xf4\x90\x80\x80", "\xf0\x9f\x98", strings.Repeat("a", 999) + "\xff", strings.Repeat("a", 1000) + "\xff", strings.Repeat("é", 2000) + "\xc3"}
	for _, s := range wrong {
		for _, other := range []string{"", "a", "é", s, "\xfe", strings.Repeat("a", 1000)} {
			refused(t, s, other, api.ErrText)
			refused(t, other, s, api.ErrText)
		}
		// R2: ErrText is named first.
		refused(t, s, strings.Repeat("a", 1001), api.ErrText)
		refused(t, strings.Repeat("a", 1001), s, api.ErrText)
	}
}

// overlap tells whether two texts have memory in common. (Those of one byte the language may lay where it will.)
func overlap(a string, b string) bool {
	x, y := uintptr(unsafe.Pointer(unsafe.StringData(a))), uintptr(unsafe.Pointer(unsafe.StringData(b)))
	return len(a) > 1 && len(b) > 1 && x < y+uintptr(len(b)) && y < x+uintptr(len(a))
}

func TestNewMemory(t *testing.T) {
	for _, pair := range [][2]string{{"one text", "another text, nearly"}, {"abc", "xyz"}, {"", "é€"}} {
		a, b := strings.Clone(pair[0]), strings.Clone(pair[1])
		first, _ := diff.Diff(a, b)
		second, _ := diff.Diff(a, b)
		for i, o := range first {
			if overlap(o.Text, b) || overlap(o.Text, a) || overlap(o.Text, second[i].Text) {
				t.Errorf("R5: %q is not new", o.Text)
			}
		}
		want := slices.Clone(second)
		for i := range first[:cap(first)] {
			first[:cap(first)][i] = keep(7)
		}
		if third, _ := diff.Diff(a, b); !slices.Equal(second, want) || !slices.Equal(third, want) {
			t.Errorf("R5: %s, %s, want %s", show(second), show(third), show(want))
		}
	}
}
