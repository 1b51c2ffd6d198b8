package trace_test

import (
	"fmt"
	"math"
	"math/rand"
	"slices"
	"strings"
	"testing"
	"unicode/utf8"

	"oxbow/api"
	"oxbow/doc"
	"oxbow/trace"
)

// show tells what there is in a line, however long it is.
func show(x any) string {
	const most = 700
	s := fmt.Sprintf("%+q", fmt.Sprintf("%+v", x))
	if len(s) > most {
		return fmt.Sprintf("%s.. (%d bytes)", s[:most], len(s))
	}
	return s
}

func run(client int, seq int, from int, s string) api.Run {
	return api.Run{Origin: api.Origin{Client: client, Seq: seq}, From: from, Text: s}
}

// word is a document of letters, each a name of its own.
func word(s string) []api.Run {
	var l []api.Run
	for _, c := range s {
		l = append(l, run(0, int(c), 0, string(c)))
	}
	return l
}

func words(l ...string) [][]api.Run {
	var docs [][]api.Run
	for _, s := range l {
		docs = append(docs, word(s))
	}
	return docs
}

// A name and an atom, as the chapter speaks of them.
type name struct {
	origin api.Origin
	num    int
}

type atom struct {
	name  name
	point rune
}

// atoms are a document's.
func atoms(l []api.Run) []atom {
	var row []atom
	for _, r := range l {
		if !utf8.ValidString(r.Text) || r.From < 0 || r.From > 1000000 {
			continue
		}
		for i, c := range []rune(r.Text) {
			row = append(row, atom{name{r.Origin, r.From + i}, c})
		}
	}
	return row
}

func sound(l []atom) bool {
	for i, a := range l {
		for _, b := range l[:i] {
			if a.name == b.name {
				return false
			}
		}
	}
	return true
}

// agree is said pair by pair, as the chapter says it.
func agree(x []atom, y []atom) bool {
	at := func(l []atom, n name) int { return slices.IndexFunc(l, func(a atom) bool { return a.name == n }) }
	for i, a := range x {
		k := at(y, a.name)
		if k < 0 {
			continue
		}
		if y[k].point != a.point {
			return false
		}
		for _, b := range x[:i] {
			if m := at(y, b.name); m >= 0 && m > k {
				return false
			}
		}
	}
	return true
}

// check is Check by its words.
func check(l [][]api.Run) (int, int, bool) {
	for i := range l {
		for j := i; j < len(l); j++ {
			x, y := atoms(l[i]), atoms(l[j])
			if i == j && !sound(x) || i < j && sound(x) && sound(y) && !agree(x, y) {
				return i, j, false
			}
		}
	}
	return 0, 0, true
}

// ordered tells whether there is an order: names go, one by one, that stand ahead of all that is left in each document that has them.
func ordered(l [][]api.Run) bool {
	var rows [][]atom
	points := map[name]rune{}
	for _, d := range l {
		row := atoms(d)
		if !sound(row) {
			return false
		}
		for _, a := range row {
			if c, met := points[a.name]; met && c != a.point {
				return false
			}
			points[a.name] = a.point
		}
		rows = append(rows, row)
	}
	for len(points) > 0 {
		went := false
		for n := range points {
			free := true
			for _, row := range rows {
				if k := slices.IndexFunc(row, func(a atom) bool { return a.name == n }); k > 0 {
					free = false
				}
			}
			if !free {
				continue
			}
			delete(points, n)
			for i, row := range rows {
				if len(row) > 0 && row[0].name == n {
					rows[i] = row[1:]
				}
			}
			went = true
			break
		}
		if !went {
			return false
		}
	}
	return true
}

// isOrder tells what is wrong with a row as an order of documents; nothing, if it is empty.
func isOrder(row []api.Run, l [][]api.Run) string {
	at := map[name]int{}
	points := map[name]rune{}
	for i, r := range row {
		if r.Text == "" || !utf8.ValidString(r.Text) || r.From < 0 {
			return fmt.Sprint("the run ", i, " is none")
		}
		if i > 0 && row[i-1].Origin == r.Origin && row[i-1].From+utf8.RuneCountInString(row[i-1].Text) == r.From {
			return fmt.Sprint("the run ", i, " could be one with that ahead of it")
		}
		for k, c := range []rune(r.Text) {
			n := name{r.Origin, r.From + k}
			if _, twice := at[n]; twice {
				return fmt.Sprint(n, " stands twice")
			}
			at[n], points[n] = len(at), c
		}
	}
	met := map[name]struct{}{}
	for i, d := range l {
		last := -1
		for _, a := range atoms(d) {
			k, there := at[a.name]
			if !there || points[a.name] != a.point || k <= last {
				return fmt.Sprint("the document ", i, " has ", a, " otherwise")
			}
			last = k
			met[a.name] = struct{}{}
		}
	}
	if len(met) != len(at) {
		return "there are names that no document has"
	}
	return ""
}

// hold holds Check and Order of documents to their words, and answers whether they said yes.
func hold(t *testing.T, l [][]api.Run) (bool, bool) {
	t.Helper()
	i, j, fine := trace.Check(l)
	if a, b, want := check(l); i != a || j != b || fine != want {
		t.Fatalf("R1: %s: %d, %d, %t, want %d, %d, %t", show(l), i, j, fine, a, b, want)
	}
	row, is := trace.Order(l)
	if want := ordered(l); is != want {
		t.Fatalf("R2: %s: %t, want %t", show(l), is, want)
	}
	if !is && len(row) != 0 {
		t.Fatalf("R3: %s: %s with false", show(l), show(row))
	}
	if is {
		if wrong := isOrder(row, l); wrong != "" {
			t.Fatalf("R2: %s: %s: %s", show(l), show(row), wrong)
		}
	}
	if is && !fine {
		t.Fatalf("P24.1: %s: an order, but they do not agree", show(l))
	}
	return fine, is
}

func TestExamples(t *testing.T) {
	for _, c := range []struct {
		docs  [][]api.Run
		i, j  int
		fine  bool
		order string // "-": there is none
	}{
		{words("ab", "axb", "xb"), 0, 0, true, "axb"},
		{words("ab", "ba"), 0, 1, false, "-"},
		{words("ab", "bc", "ca"), 0, 0, true, "-"},
		{words("a", "aa"), 1, 1, false, "-"},
		{nil, 0, 0, true, ""},
		{words(), 0, 0, true, ""},
		{words(""), 0, 0, true, ""},
		{words("", "", ""), 0, 0, true, ""},
		{words("abc"), 0, 0, true, "abc"},
		// The first pair: the least i, then the least j.
		{words("aa"), 0, 0, false, "-"},
		{words("ab", "cc", "ba"), 0, 2, false, "-"},
		{words("cc", "ab", "ba"), 0, 0, false, "-"},
		{words("ab", "aab", "bab", "ba"), 0, 3, false, "-"},
		{words("xy", "ab", "cc", "ba"), 1, 3, false, "-"},
		{words("xy", "ab", "dc", "ba", "cd"), 1, 3, false, "-"},
		{words("xy", "dc", "ab", "ba", "cd"), 1, 4, false, "-"},
		{words("abcd", "ac", "dc", "ba"), 0, 2, false, "-"},
		// Documents that are not sound agree with nobody, and do not disagree.
		{words("xy", "yxx"), 1, 1, false, "-"},
	} {
		hold(t, c.docs)
		if i, j, fine := trace.Check(c.docs); i != c.i || j != c.j || fine != c.fine {
			t.Errorf("R1: %s: %d, %d, %t", show(c.docs), i, j, fine)
		}
		row, is := trace.Order(c.docs)
		if is != (c.order != "-") || is && doc.Text(row) != c.order {
			t.Errorf("R2: %s: %s, %t", show(c.docs), show(row), is)
		}
	}
}

// TestRunsThatCount: others are passed over, wherever they stand.
func TestRunsThatCount(t *testing.T) {
	counts := func(r api.Run) bool {
		t.Helper()
		row, is := trace.Order([][]api.Run{{r}})
		if !is {
			t.Fatalf("R2: %s: there is no order", show(r))
		}
		if len(row) > 0 && !slices.Equal(row, []api.Run{r}) {
			t.Errorf("R2: %s: %s", show(r), show(row))
		}
		return len(row) > 0
	}
	for from, want := range map[int]bool{-1: false, 0: true, 1: true, 999999: true, 1000000: true, 1000001: false, 2000000: false, math.MinInt: false, math.MaxInt: false} {
		if counts(run(1, 2, from, "é😀x")) != want {
			t.Errorf("a run from %d counts, or not: want %t", from, want)
		}
	}
	for s, want := range map[string]bool{
		"": false, "a": true, "\x00": true, "é€😀": true, "\U0010ffff": true, "a\u0301": true, "\ufffd": true,
		"\xff": false, "\xc0\x80": false, "\xed\xa0\x80": false, "\xf4\x90\x80\x80": false, "\x80": false, "ab\xe2\x82": false, "a\xffb": false, "\xe2\x82": false,
	} {
		if counts(run(1, 2, 0, s)) != want {
			t.Errorf("a run of %q counts, or not: want %t", s, want)
		}
	}
	// Origins may be any.
	for _, o := range []api.Origin{{}, {Client: -1, Seq: -1}, {Client: 9, Seq: 100001}, {Client: math.MaxInt, Seq: math.MinInt}} {
		if !counts(api.Run{Origin: o, Text: "x"}) {
			t.Errorf("a run of %v does not count", o)
		}
	}
	// What does not count, and would not be sound, or not agree, between what does.
	bad := []api.Run{run(0, 1, 0, "ab\xff"), run(0, 1, -1, "zab"), run(0, 1, 1000001, "x"), run(0, 1, 0, "")}
	between := func(l ...api.Run) []api.Run {
		all := slices.Clone(bad)
		for _, r := range l {
			all = append(append(all, r), bad...)
		}
		return all
	}
	l := [][]api.Run{between(run(0, 1, 0, "a"), run(0, 2, 0, "x"), run(0, 1, 1, "b")), bad, between(run(0, 1, 0, "ab"))}
	if fine, is := hold(t, l); !fine || !is {
		t.Errorf("runs that do not count: %t, %t", fine, is)
	}
	if row, _ := trace.Order(l); !slices.Equal(row, []api.Run{run(0, 1, 0, "a"), run(0, 2, 0, "x"), run(0, 1, 1, "b")}) {
		t.Errorf("R2: %s", show(row))
	}
	// They do not keep others apart.
	if row, _ := trace.Order([][]api.Run{between(run(0, 1, 0, "a"), run(0, 1, 1, "b"))}); !slices.Equal(row, []api.Run{run(0, 1, 0, "ab")}) {
		t.Errorf("R2: %s", show(row))
	}
}

// TestNames: which atoms are one.
func TestNames(t *testing.T) {
	const top = 1000000
	for _, c := range []struct {
		docs [][]api.Run
		i, j int
		fine bool
		row  []api.Run // of those that have an order
	}{
		// One name twice: in two runs, whole or in part, and the same code point or not.
		{[][]api.Run{{run(0, 1, 0, "a"), run(0, 1, 0, "a")}}, 0, 0, false, nil},
		{[][]api.Run{{run(0, 1, 0, "a"), run(0, 1, 0, "b")}}, 0, 0, false, nil},
		{[][]api.Run{{run(0, 1, 0, "abc"), run(0, 1, 1, "b")}}, 0, 0, false, nil},
		{[][]api.Run{{run(0, 1, 2, "c"), run(0, 2, 0, "x"), run(0, 1, 0, "abc")}}, 0, 0, false, nil},
		{[][]api.Run{{run(0, 1, 0, "éé"), run(0, 1, 1, "é")}}, 0, 0, false, nil},
		{[][]api.Run{{run(0, 1, top, "ab"), run(0, 1, top, "a")}}, 0, 0, false, nil},
		{[][]api.Run{{run(0, 1, top-1, "abc"), run(0, 1, top, "b")}}, 0, 0, false, nil},
		// None twice: bytes are not counted, and a run above the highest From does not count.
		{[][]api.Run{{run(0, 1, 0, "éé"), run(0, 1, 2, "é")}}, 0, 0, true, []api.Run{run(0, 1, 0, "ééé")}},
		{[][]api.Run{{run(0, 1, top, "ab"), run(0, 1, top+1, "b")}}, 0, 0, true, []api.Run{run(0, 1, top, "ab")}},
		{[][]api.Run{{run(0, 1, top, "ab"), run(0, 1, top-1, "c")}}, 0, 0, true, []api.Run{run(0, 1, top, "ab"), run(0, 1, top-1, "c")}},
		// Other origins, and other numbers, are other names.
		{[][]api.Run{{run(0, 1, 0, "a"), run(1, 1, 0, "a"), run(1, 0, 0, "a"), run(0, 1, 1, "a")}}, 0, 0, true, []api.Run{run(0, 1, 0, "a"), run(1, 1, 0, "a"), run(1, 0, 0, "a"), run(0, 1, 1, "a")}},
		// One name with unlike code points.
		{[][]api.Run{{run(0, 1, 0, "a")}, {run(0, 1, 0, "b")}}, 0, 1, false, nil},
		{[][]api.Run{{run(0, 1, 0, "ab")}, {run(0, 1, 1, "b")}, {run(0, 1, 1, "x")}}, 0, 2, false, nil},
		{[][]api.Run{{run(0, 1, 0, "é")}, {run(0, 1, 0, "e\u0301")}}, 0, 1, false, nil},
		{[][]api.Run{{run(0, 1, 0, "a")}, {run(0, 1, 0, "\u0101")}}, 0, 1, false, nil}, // with the same lower bits
		// Cut otherwise, it is the same document.
		{[][]api.Run{{run(0, 1, 0, "abc")}, {run(0, 1, 0, "a"), run(0, 1, 1, "bc")}, {run(0, 1, 0, "a"), run(0, 1, 2, "c")}}, 0, 0, true, []api.Run{run(0, 1, 0, "abc")}},
	} {
		hold(t, c.docs)
		if i, j, fine := trace.Check(c.docs); i != c.i || j != c.j || fine != c.fine {
			t.Errorf("R1: %s: %d, %d, %t", show(c.docs), i, j, fine)
		}
		if row, is := trace.Order(c.docs); is != (c.row != nil) || !slices.Equal(row, c.row) {
			t.Errorf("R2: %s: %s, %t", show(c.docs), show(row), is)
		}
	}
}

// TestJoinedRuns: what stands next to one another with numbers that go up by one is one run, and nothing else is.
func TestJoinedRuns(t *testing.T) {
	for _, l := range [][]api.Run{
		{run(0, 1, 0, "abc")},
		{run(0, 1, 1, "b"), run(0, 1, 0, "a")},
		{run(0, 1, 0, "a"), run(0, 1, 2, "c")},
		{run(0, 1, 0, "a"), run(0, 2, 1, "b")},
		{run(0, 1, 0, "a"), run(1, 1, 1, "b")},
		{run(0, 1, 0, "ab"), run(0, 2, 0, "x"), run(0, 1, 2, "cd")},
		{run(3, 1, 5, "éé"), run(3, 1, 9, "é"), run(3, 1, 7, "é")},
	} {
		var apart []api.Run
		for _, r := range l {
			for i, c := range []rune(r.Text) {
				apart = append(apart, api.Run{Origin: r.Origin, From: r.From + i, Text: string(c)})
			}
		}
		for _, docs := range [][][]api.Run{{l}, {apart}, {l, apart}, {apart[:1], l, apart[1:]}} {
			hold(t, docs)
			if row, is := trace.Order(docs); !is || len(docs) < 3 && !slices.Equal(row, l) {
				t.Errorf("R2: %s: %s, %t", show(docs), show(row), is)
			}
		}
	}
}

// TestRings: of two, three and many documents, with and without more beside them.
func TestRings(t *testing.T) {
	for n := 2; n <= 30; n++ {
		var ring []string
		for i := range n {
			ring = append(ring, string(rune('A'+i))+string(rune('A'+(i+1)%n)))
		}
		l := words(ring...)
		fine, is := hold(t, l)
		if fine != (n > 2) || is {
			t.Errorf("R1, R2: a ring of %d: %t, %t", n, fine, is)
		}
		// Without one of them it is none.
		for i := range l {
			if _, is := hold(t, slices.Delete(slices.Clone(l), i, i+1)); !is {
				t.Errorf("R2: a ring of %d, without the %d-th: there is no order", n, i)
			}
		}
	}
	for _, l := range [][]string{
		{"xab", "bcy", "zca"},
		{"abc", "cde", "efa"},
		{"abcdef", "fgh", "hia"},
		{"q", "ab", "r", "bc", "s", "ca"},
		{"abx", "bcx", "cax", "xyz", "zw"},
		{"ab", "cd", "bc", "da"},
	} {
		if fine, is := hold(t, words(l...)); !fine || is {
			t.Errorf("R1, R2: %v: %t, %t", l, fine, is)
		}
	}
}

// TestAllSmall: all rows of up to three words of up to three letters.
func TestAllSmall(t *testing.T) {
	all := []string{""}
	for from := 0; len(all) < 40; from++ {
		for _, c := range "abc" {
			all = append(all, all[from]+string(c))
		}
	}
	counts := map[[2]bool]int{}
	for _, x := range all {
		for _, y := range all {
			for _, z := range all {
				fine, is := hold(t, words(x, y, z))
				counts[[2]bool{fine, is}]++
			}
		}
	}
	if len(counts) != 3 || counts[[2]bool{true, false}] != 12 {
		// A ring of three is one of two ways round, and its documents stand in one of six rows.
		t.Errorf("of all rows so many have a Check and an Order: %v", counts)
	}
}

// someDoc is a document at random, over few names; now and then with runs that do not count.
func someDoc(r *rand.Rand, names int) []api.Run {
	var l []api.Run
	for range r.Intn(6) {
		n := r.Intn(names)
		x := run(n%2, 1+n%3, n/3, strings.Repeat("ab", 2)[n%2:n%2+1+r.Intn(2)])
		switch r.Intn(40) {
		case 0:
			x.Text += "\xff"
		case 1:
			x.From = 1000001
		case 2:
			x.Text = "é" + x.Text
		}
		l = append(l, x)
	}
	return l
}

// inRow are parts of one row, so that there is an order, or, if it is bent, perhaps none.
func inRow(r *rand.Rand, names int, docs int, bent int) [][]api.Run {
	row := r.Perm(names)
	var l [][]api.Run
	for range docs {
		var d []api.Run
		for _, n := range row {
			if r.Intn(3) > 0 {
				d = append(d, run(n%3, 1, n/3, string(rune('a'+n%26))))
			}
		}
		for range bent {
			if len(d) > 1 {
				i := r.Intn(len(d) - 1)
				d[i], d[i+1] = d[i+1], d[i]
			}
		}
		l = append(l, d)
	}
	return l
}

func TestSome(t *testing.T) {
	counts := map[[2]bool]int{}
	r := rand.New(rand.NewSource(24))
	for i := range 6000 {
		var l [][]api.Run
		for range r.Intn(6) {
			l = append(l, someDoc(r, 2+r.Intn(12)))
		}
		switch i % 3 {
		case 1:
			l = inRow(r, 2+r.Intn(12), 1+r.Intn(6), r.Intn(3)/2)
		case 2:
			l = nil
			for range 2 + r.Intn(7) {
				some := r.Perm(6)[:2+r.Intn(2)]
				l = append(l, word(string(rune('a'+some[0]))+string(rune('a'+some[1]))+strings.Repeat("z", len(some)-2)))
			}
		}
		fine, is := hold(t, l)
		counts[[2]bool{fine, is}]++
		holdParts(t, r, l, fine, is)
	}
	if len(counts) != 3 || counts[[2]bool{true, false}] < 100 {
		t.Errorf("so many have a Check and an Order: %v", counts)
	}
}

// holdParts holds P24.2 of some documents, of which is known what Check and Order say.
func holdParts(t *testing.T, r *rand.Rand, l [][]api.Run, fine bool, is bool) {
	t.Helper()
	var some [][]api.Run
	for _, i := range r.Perm(len(l)) {
		if r.Intn(4) == 0 {
			continue
		}
		var part []api.Run
		for _, a := range atoms(l[i]) {
			if r.Intn(4) > 0 {
				part = append(part, api.Run{Origin: a.name.origin, From: a.name.num, Text: string(a.point)})
			}
		}
		some = append(some, part)
	}
	if _, _, now := trace.Check(some); fine && !now {
		t.Fatalf("P24.2: %s: Check says yes, but no to %s", show(l), show(some))
	}
	if _, now := trace.Order(some); is && !now {
		t.Fatalf("P24.2: %s: Order says yes, but no to %s", show(l), show(some))
	}
}

// TestLongRows: rows longer than calls can be nested, and documents that have them in common.
func TestLongRows(t *testing.T) {
	const n = 300000
	s := strings.Repeat("abcdefghi\u00e9", n/10)
	whole := []api.Run{run(1, 1, 0, s)}
	if i, j, fine := trace.Check([][]api.Run{whole, whole, whole}); i != 0 || j != 0 || !fine {
		t.Errorf("R1: %d, %d, %t", i, j, fine)
	}
	if row, is := trace.Order([][]api.Run{whole, whole, whole}); !is || !slices.Equal(row, whole) {
		t.Errorf("R2: %d runs, %t", len(row), is)
	}
	// Each second atom, with others between, and the halves the other way round.
	var half []api.Run
	for i := 0; i < n; i += 2 {
		half = append(half, run(1, 1, i, string(s[i/10*11+i%10])), run(2, 1+i, 0, "-"))
	}
	l := [][]api.Run{half, whole}
	row, is := trace.Order(l)
	if wrong := isOrder(row, l); !is || wrong != "" {
		t.Errorf("R2: %t: %s", is, wrong)
	}
	l = append(l, []api.Run{half[n-2], half[0]})
	if i, j, fine := trace.Check(l); i != 0 || j != 2 || fine {
		t.Errorf("R1: %d, %d, %t", i, j, fine)
	}
	if row, is := trace.Order(l); is || len(row) != 0 {
		t.Errorf("R2: %d runs, %t", len(row), is)
	}
	// A long row, each atom of which has a document of its own beside it.
	l = [][]api.Run{whole}
	for i := 0; i < n; i += 10 {
		l = append(l, []api.Run{run(1, 1, i, "a"), run(2, 1+i, 0, "-")})
	}
	row, is = trace.Order(l)
	if wrong := isOrder(row, l); !is || wrong != "" {
		t.Errorf("R2: %t: %s", is, wrong)
	}
	if _, _, fine := trace.Check(l); !fine {
		t.Error("R1: they do not agree")
	}
}

// TestManyDocuments: those that wait for one another in a long chain, either way round, and in a ring.
func TestManyDocuments(t *testing.T) {
	const n = 100000
	var chain [][]api.Run
	for i := range n {
		chain = append(chain, []api.Run{run(0, i, 0, "x"), run(0, i+1, 0, "x")})
	}
	for range 2 {
		row, is := trace.Order(chain)
		if wrong := isOrder(row, chain); !is || wrong != "" {
			t.Errorf("R2: %t: %s", is, wrong)
		}
		if _, _, fine := trace.Check(chain); !fine {
			t.Error("R1: they do not agree")
		}
		slices.Reverse(chain)
	}
	ring := append(slices.Clone(chain), []api.Run{run(0, n, 0, "x"), run(0, 0, 0, "x")})
	if row, is := trace.Order(ring); is || len(row) != 0 {
		t.Errorf("R2: a ring has an order of %d runs", len(row))
	}
	if i, j, fine := trace.Check(ring); !fine {
		t.Errorf("R1: %d and %d do not agree", i, j)
	}
	ring = append(ring, []api.Run{run(0, 501, 0, "x"), run(0, 500, 0, "x")}, []api.Run{run(0, 77, 0, "x"), run(0, 77, 0, "x")})
	if i, j, fine := trace.Check(ring); i != 500 || j != n+1 || fine {
		t.Errorf("R1: %d, %d, %t", i, j, fine)
	}
	// Many that have the same.
	var many [][]api.Run
	for range 300 {
		many = append(many, []api.Run{run(0, 1, 0, strings.Repeat("x", 1000))})
	}
	many = append(many, []api.Run{run(0, 1, 999, "x"), run(0, 1, 998, "x")})
	if i, j, fine := trace.Check(many); i != 0 || j != 300 || fine {
		t.Errorf("R1: %d, %d, %t", i, j, fine)
	}
	if i, j, fine := trace.Check(many[:300]); i != 0 || j != 0 || !fine {
		t.Errorf("R1: %d, %d, %t", i, j, fine)
	}
}

// TestNothingIsShared: R5, R6: what is handed in stays, what is answered is new each time, and the same.
func TestNothingIsShared(t *testing.T) {
	r := rand.New(rand.NewSource(5))
	for range 200 {
		l := inRow(r, 12, 4, 0)
		was := show(l)
		row, is := trace.Order(l)
		again, _ := trace.Order(l)
		if !is || !slices.Equal(row, again) {
			t.Fatalf("R6: %s, then %s", show(row), show(again))
		}
		clear(row[:cap(row)])
		third, _ := trace.Order(l)
		trace.Check(l)
		if !slices.Equal(third, again) || show(l) != was {
			t.Fatalf("R5: %s, and was %s", show(l), was)
		}
	}
}
