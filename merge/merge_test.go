package merge_test

import (
	"math"
	"math/rand"
	"slices"
	"strings"
	"testing"
	"unsafe"

	"oxbow/api"
	"oxbow/doc"
	"oxbow/merge"
)

func wantDocs(t *testing.T, what string, base []api.Run, x []api.Run, y []api.Run, nx int, ny int, want []api.Run) {
	t.Helper()
	if got, e := hold(t, base, x, y, nx, ny); !slices.Equal(got, want) || e != api.OK {
		t.Errorf("P14.1: %s: %s, %d, want %s", what, show(got), e, show(want))
	}
}

func wantNone(t *testing.T, what string, base []api.Run, x []api.Run, y []api.Run, want api.Errno) {
	t.Helper()
	for _, n := range [][2]int{{1, 2}, {2, 1}, {1, 1}} {
		if got, e := hold(t, base, x, y, n[0], n[1]); len(got) > 0 || e != want {
			t.Errorf("P14.1: %s: %s, %d, want %d", what, show(got), e, want)
		}
	}
}

func wantDelta(t *testing.T, what string, from []api.Run, to []api.Run, want []api.Op) {
	t.Helper()
	holdDelta(t, from, to)
	if d, e := merge.Delta(from, to); !slices.Equal(d, want) || e != api.OK {
		t.Errorf("P14.2: %s: %s, %d, want %s", what, show(d), e, show(want))
	}
}

func TestExamples(t *testing.T) {
	base := runs(run(0, 1, 0, "ab"))
	x := runs(run(0, 1, 0, "a"), run(0, 5, 0, "X"), run(0, 1, 1, "b"))
	y := runs(run(0, 1, 0, "a"), run(0, 6, 0, "Y"), run(0, 1, 1, "b"))
	again := runs(run(0, 1, 0, "a"), run(0, 4, 0, "X"), run(0, 1, 1, "b"))
	wantDocs(t, "aXb and aYb", base, x, y, 5, 6, runs(run(0, 1, 0, "a"), run(0, 5, 0, "X"), run(0, 6, 0, "Y"), run(0, 1, 1, "b")))
	wantDocs(t, "aXb and b", base, x, runs(run(0, 1, 1, "b")), 5, 6, runs(run(0, 5, 0, "X"), run(0, 1, 1, "b")))
	wantDocs(t, "aXb twice", base, x, again, 5, 4, runs(run(0, 1, 0, "a"), run(0, 4, 0, "X"), run(0, 5, 0, "X"), run(0, 1, 1, "b")))
	// The whole document's second example.
	base = runs(run(0, 2, 0, "abc"))
	x = runs(run(0, 2, 0, "a"), run(0, 3, 0, "x"), run(0, 2, 2, "c"))
	y = runs(run(0, 2, 0, "abc"), run(0, 4, 0, "d"))
	want := runs(run(0, 2, 0, "a"), run(0, 3, 0, "x"), run(0, 2, 2, "c"), run(0, 4, 0, "d"))
	wantDocs(t, "axc and abcd", base, x, y, 3, 4, want)
	wantDocs(t, "abcd and axc", base, y, x, 4, 3, want)
	wantDelta(t, "axc to axcd", x, want, ops(keep(3), ins("d")))
	wantDelta(t, "abcd to axcd", y, want, ops(keep(1), ins("x"), gone(1), keep(2)))
}

func TestDocsEdges(t *testing.T) {
	base := runs(run(0, 1, 0, "abc"))
	ends := runs(run(0, 5, 0, "<"), run(0, 1, 0, "abc"), run(0, 5, 1, ">"))
	tails := runs(run(1, 5, 0, "("), run(0, 1, 0, "abc"), run(1, 5, 1, ")"))
	wantDocs(t, "no runs on any side", nil, nil, nil, 1, 2, nil)
	wantDocs(t, "no runs, but lists", runs(), runs(), runs(), 2, 1, nil)
	wantDocs(t, "no runs in base", nil, runs(run(0, 2, 0, "b")), runs(run(0, 3, 0, "a")), 2, 3, runs(run(0, 3, 0, "a"), run(0, 2, 0, "b")))
	wantDocs(t, "no runs but in base", base, nil, nil, 1, 2, nil)
	wantDocs(t, "no runs but in x", nil, base, nil, 1, 2, base)
	wantDocs(t, "no runs but in y", nil, nil, base, 1, 2, base)
	wantDocs(t, "all the same", base, base, base, 1, 2, base)
	wantDocs(t, "x is base", base, base, ends, 2, 1, ends)
	wantDocs(t, "y is base", base, ends, base, 2, 1, ends)
	wantDocs(t, "x deletes all", base, nil, ends, 1, 2, runs(run(0, 5, 0, "<>")))
	wantDocs(t, "y deletes all", base, ends, nil, 1, 2, runs(run(0, 5, 0, "<>")))
	wantDocs(t, "x deletes all and puts in", base, runs(run(2, 1, 0, "=")), ends, 1, 2, runs(run(0, 5, 0, "<>"), run(2, 1, 0, "=")))
	wantDocs(t, "all survive, gaps at both ends", base, ends, tails, 1, 2, runs(run(1, 5, 0, "("), run(0, 5, 0, "<"), run(0, 1, 0, "abc"), run(1, 5, 1, ")"), run(0, 5, 1, ">")))
	wantDocs(t, "none survives: one gap", base,
		runs(run(0, 5, 0, "p"), run(0, 1, 0, "a"), run(0, 5, 1, "q")), runs(run(0, 6, 0, "p"), run(0, 1, 1, "b"), run(0, 6, 1, "r")), 1, 2,
		runs(run(0, 5, 0, "pq"), run(0, 6, 0, "pr")))
	wantDocs(t, "one survives", base,
		runs(run(0, 5, 0, "p"), run(0, 1, 0, "ab"), run(0, 5, 1, "q")), runs(run(0, 6, 0, "r"), run(0, 1, 1, "bc"), run(0, 6, 1, "o")), 1, 2,
		runs(run(0, 5, 0, "p"), run(0, 6, 0, "r"), run(0, 1, 1, "b"), run(0, 6, 1, "o"), run(0, 5, 1, "q")))
	wantDocs(t, "what the other side deletes joins a gap", base,
		runs(run(0, 1, 0, "a"), run(0, 5, 0, "z"), run(0, 1, 1, "b"), run(0, 5, 1, "z"), run(0, 1, 2, "c")), runs(run(0, 1, 0, "a"), run(0, 6, 0, "zz"), run(0, 1, 2, "c")), 9, 3,
		runs(run(0, 1, 0, "a"), run(0, 6, 0, "zz"), run(0, 5, 0, "zz"), run(0, 1, 2, "c")))
	wantDocs(t, "the same text in a gap by other runs", nil, runs(run(0, 5, 0, "zz")), runs(run(0, 6, 0, "z"), run(0, 7, 0, "z")), 1, 2, runs(run(0, 5, 0, "zz"), run(0, 6, 0, "z"), run(0, 7, 0, "z")))
}

// New atoms of both sides in one gap: which come first.
func TestWhichIsFirst(t *testing.T) {
	base := runs(run(0, 1, 0, "ab"))
	side := func(seq int, s string) []api.Run {
		return runs(run(0, 1, 0, "a"), run(0, seq, 0, s), run(0, 1, 1, "b"))
	}
	both := func(first int, s string, second int, r string) []api.Run {
		return runs(run(0, 1, 0, "a"), run(0, first, 0, s), run(0, second, 0, r), run(0, 1, 1, "b"))
	}
	numbers := []int{math.MinInt, -2, -1, 0, 1, 2, 300, math.MaxInt}
	for _, nx := range numbers {
		for _, ny := range numbers {
			wantDocs(t, "less", base, side(5, "k"), side(6, "l"), nx, ny, both(5, "k", 6, "l"))
			wantDocs(t, "greater", base, side(5, "l"), side(6, "k"), nx, ny, both(6, "k", 5, "l"))
			wantDocs(t, "less at the second", base, side(5, "lk"), side(6, "ll"), nx, ny, both(5, "lk", 6, "ll"))
			wantDocs(t, "the beginning of the other", base, side(5, "k"), side(6, "kk"), nx, ny, both(5, "k", 6, "kk"))
			wantDocs(t, "longer than its beginning", base, side(5, "kk"), side(6, "k"), nx, ny, both(6, "k", 5, "kk"))
			wantDocs(t, "longer, but less", base, side(5, "kzz"), side(6, "l"), nx, ny, both(5, "kzz", 6, "l"))
			wantDocs(t, "by bytes: upper ahead of lower", base, side(5, "a"), side(6, "Z"), nx, ny, both(6, "Z", 5, "a"))
			wantDocs(t, "by bytes: two ahead of four", base, side(5, "😀"), side(6, "é"), nx, ny, both(6, "é", 5, "😀"))
			wantDocs(t, "by bytes: three ahead of four", base, side(5, "\U00010000"), side(6, "\uffff"), nx, ny, both(6, "\uffff", 5, "\U00010000"))
			if nx <= ny {
				wantDocs(t, "equal", base, side(6, "kl"), side(5, "kl"), nx, ny, both(6, "kl", 5, "kl"))
			} else {
				wantDocs(t, "equal", base, side(6, "kl"), side(5, "kl"), nx, ny, both(5, "kl", 6, "kl"))
			}
		}
	}
	// Each gap by itself: x first in one, y in the other.
	x := runs(run(0, 5, 0, "k"), run(0, 1, 0, "a"), run(0, 5, 1, "l"), run(0, 1, 1, "b"), run(0, 5, 2, "k"))
	y := runs(run(0, 6, 0, "l"), run(0, 1, 0, "a"), run(0, 6, 1, "k"), run(0, 1, 1, "b"), run(0, 6, 2, "k"))
	wantDocs(t, "gap by gap", base, x, y, 2, 1, runs(run(0, 5, 0, "k"), run(0, 6, 0, "l"), run(0, 1, 0, "a"), run(0, 6, 1, "k"), run(0, 5, 1, "l"), run(0, 1, 1, "b"), run(0, 6, 2, "k"), run(0, 5, 2, "k")))
}

// Atoms that base does not put in one run become one when what stood between them goes.
func TestRunsThatBecomeOne(t *testing.T) {
	base := runs(run(0, 1, 0, "a"), run(0, 2, 0, "-"), run(0, 1, 1, "b"), run(0, 2, 1, "-"), run(0, 1, 2, "c"))
	x := runs(run(0, 1, 0, "ab"), run(0, 2, 1, "-"), run(0, 1, 2, "c"))
	y := runs(run(0, 1, 0, "a"), run(0, 2, 0, "-"), run(0, 1, 1, "bc"))
	wantDocs(t, "survivors", base, x, y, 1, 2, runs(run(0, 1, 0, "abc")))
	// x's new atoms are one run when b goes; and when those of y, of the same origin, stand behind them.
	base = runs(run(0, 1, 0, "ab"))
	x = runs(run(0, 3, 0, "k"), run(0, 1, 1, "b"), run(0, 3, 1, "k"))
	wantDocs(t, "new atoms of a side", base, x, nil, 1, 2, runs(run(0, 3, 0, "kk")))
	y = runs(run(0, 3, 2, "l"), run(0, 1, 0, "a"))
	wantDocs(t, "new atoms of both sides", base, x, y, 2, 1, runs(run(0, 3, 0, "kkl")))
	y = runs(run(0, 1, 2, "c"), run(0, 1, 0, "a"))
	wantDocs(t, "a survivor and a new atom", base, base, runs(run(0, 1, 0, "abc")), 1, 2, runs(run(0, 1, 0, "abc")))
	wantDocs(t, "and the other way round", base, y, base, 1, 2, y)
}

func TestMergeForm(t *testing.T) {
	base := runs(run(0, 1, 0, "ab"), run(0, 2, 0, "c"))
	good := runs(run(0, 1, 0, "ab"), run(0, 2, 0, "c"), run(0, 5, 0, "x"))
	for _, c := range []struct {
		what    string
		b, x, y []api.Run
	}{
		{"unlike in base and x", base, runs(run(0, 1, 0, "aB")), good},
		{"unlike in base and y", base, good, runs(run(0, 1, 0, "aB"))},
		{"unlike in base and x, gone in y", base, runs(run(0, 1, 0, "A")), nil},
		{"unlike in base and y, gone in x", base, nil, runs(run(0, 2, 0, "C"))},
		{"unlike in base and both", base, runs(run(0, 1, 1, "B")), runs(run(0, 1, 1, "B"))},
		{"unlike in x and y", base, good, runs(run(0, 5, 0, "y"))},
		{"unlike in x and y, and no base", nil, runs(run(0, 5, 0, "x")), runs(run(0, 5, 0, "y"))},
		{"unlike in all three", base, runs(run(0, 1, 0, "B")), runs(run(0, 1, 0, "C"))},
		{"another order in x", base, runs(run(0, 1, 1, "b"), run(0, 1, 0, "a")), good},
		{"another order in y", base, good, runs(run(0, 2, 0, "c"), run(0, 1, 0, "ab"))},
		{"another order in x, gone in y", base, runs(run(0, 1, 1, "b"), run(0, 1, 0, "a")), nil},
		{"another order in y, gone in x", base, nil, runs(run(0, 1, 1, "b"), run(0, 5, 0, "x"), run(0, 1, 0, "a"))},
		{"another order in both, the same", base, runs(run(0, 2, 0, "c"), run(0, 1, 0, "a")), runs(run(0, 2, 0, "c"), run(0, 1, 0, "a"))},
		{"another order of the last ones", base, runs(run(0, 1, 0, "a"), run(0, 2, 0, "c"), run(0, 1, 1, "b")), good},
		{"both have one", base, good, good},
		{"both have one, and no base", nil, runs(run(0, 5, 0, "x")), runs(run(0, 5, 0, "x"))},
		{"both have one at another place", base, good, runs(run(0, 5, 0, "x"), run(0, 1, 0, "a"))},
		{"both have one amid a run", base, runs(run(0, 5, 0, "xyz")), runs(run(0, 1, 0, "a"), run(0, 5, 1, "yt"), run(0, 1, 1, "b"))},
	} {
		wantNone(t, c.what, c.b, c.x, c.y, api.ErrMergeForm)
	}
	// Not the same atoms: another client, another number.
	wantDocs(t, "another client's", nil, runs(run(1, 5, 0, "x")), runs(run(0, 5, 0, "x")), 1, 2, runs(run(1, 5, 0, "x"), run(0, 5, 0, "x")))
	wantDocs(t, "another number", nil, runs(run(0, 5, 4, "x")), runs(run(0, 5, 0, "y")), 1, 2, runs(run(0, 5, 4, "x"), run(0, 5, 0, "y")))
	wantDocs(t, "new ones in another order", base, runs(run(0, 5, 1, "y"), run(0, 5, 0, "x")), base, 1, 2, runs(run(0, 5, 1, "y"), run(0, 5, 0, "x")))
}

// full is a document of n atoms of one origin.
func full(seq int, n int) []api.Run {
	if n == 0 {
		return nil
	}
	return runs(run(0, seq, 0, strings.Repeat("é", n)))
}

func TestMergeLength(t *testing.T) {
	for _, c := range []struct{ ofX, ofY int }{{1000, 0}, {0, 1000}, {999, 1}, {1, 999}, {500, 500}, {1000, 1}, {1, 1000}, {501, 500}, {1000, 1000}} {
		got, e := hold(t, nil, full(2, c.ofX), full(3, c.ofY), 2, 3)
		if fits := c.ofX+c.ofY <= 1000; fits != (e == api.OK) || !fits && e != api.ErrDeltaLength || e == api.OK && doc.Len(got) != c.ofX+c.ofY {
			t.Errorf("P14.1: %d and %d new atoms: %s, %d", c.ofX, c.ofY, show(got), e)
		}
	}
	base := full(1, 1000)
	less := full(1, 999)
	x := append(full(1, 999), run(0, 2, 0, "x"))
	y := append(full(1, 999), run(0, 3, 0, "y"))
	wantNone(t, "999 survivors, one new of each", base, x, y, api.ErrDeltaLength)
	wantDocs(t, "999 survivors, one new", base, less, y, 1, 2, y)
	wantDocs(t, "998 survivors, one new of each", base, runs(run(0, 2, 0, "x"), run(0, 1, 1, base[0].Text[2:])), runs(run(0, 3, 0, "y"), run(0, 1, 0, less[0].Text)), 1, 2,
		runs(run(0, 2, 0, "x"), run(0, 3, 0, "y"), run(0, 1, 1, less[0].Text[2:])))
	wantDocs(t, "all 1000 survive", base, base, base, 1, 2, base)
	wantDocs(t, "all 1000 go", base, nil, nil, 1, 2, nil)
	wantDocs(t, "1000 go, 1000 come", base, full(2, 1000), nil, 1, 2, full(2, 1000))
}

// wrongDocs are documents that may not be.
func wrongDocs() [][]api.Run {
	return [][]api.Run{
		runs(run(0, 0, 0, "a")),
		runs(run(9, 1, 0, "a")),
		runs(run(-1, 1, 0, "a")),
		runs(run(0, 100001, 0, "a")),
		runs(run(0, 1, 0, "")),
		runs(run(0, 1, 0, "\xff")),
		runs(run(0, 1, -1, "a")),
		runs(run(0, 1, 999, "ab")),
		runs(run(0, 1, math.MaxInt, "ab")),
		runs(run(0, 1, 0, "a"), run(0, 1, 1, "b")),
		runs(run(0, 1, 0, "a"), run(0, 1, 0, "a")),
		append(full(1, 1000), run(0, 2, 0, "a")),
		runs(run(0, 1, 0, strings.Repeat("a", 100000))),
	}
}

func TestWrongDocuments(t *testing.T) {
	a, b := runs(run(0, 1, 0, "ab")), runs(run(0, 1, 1, "b"), run(0, 1, 0, "a"))
	for i, wrong := range wrongDocs() {
		if doc.Check(wrong) == api.OK {
			t.Errorf("document %d may be", i)
		}
		wantNone(t, "base may not be", wrong, nil, nil, api.ErrDocForm)
		wantNone(t, "x may not be", nil, wrong, nil, api.ErrDocForm)
		wantNone(t, "y may not be", nil, nil, wrong, api.ErrDocForm)
		wantNone(t, "none may be", wrong, wrong, wrong, api.ErrDocForm)
		wantNone(t, "base may not be, x and y have one", wrong, a, a, api.ErrDocForm)
		wantNone(t, "x may not be, y has another order", a, wrong, b, api.ErrDocForm)
		wantNone(t, "y may not be, x has another order", a, b, wrong, api.ErrDocForm)
		wantNone(t, "y may not be, x has 1000", nil, full(2, 1000), wrong, api.ErrDocForm)
		for _, good := range [][]api.Run{nil, a, b, wrong} {
			holdDelta(t, wrong, good)
			holdDelta(t, good, wrong)
		}
	}
}

// A fault of the form comes ahead of what comes being too long.
func TestFormAheadOfLength(t *testing.T) {
	wantNone(t, "both have one, and 1001 others", nil, full(2, 600), append(full(3, 402), full(2, 1)...), api.ErrMergeForm)
	wantNone(t, "another order, and too long", runs(run(0, 1, 0, "ab")), append(runs(run(0, 1, 1, "b"), run(0, 1, 0, "a")), full(2, 600)...), full(3, 600), api.ErrMergeForm)
	wantNone(t, "unlike, and too long", runs(run(0, 1, 0, "ab")), full(2, 600), append(runs(run(0, 1, 0, "b")), full(3, 600)...), api.ErrMergeForm)
}

func TestDeltaEdges(t *testing.T) {
	a := runs(run(0, 1, 0, "abc"), run(2, 7, 5, "é€"))
	wantDelta(t, "from no runs to none", nil, nil, nil)
	wantDelta(t, "from no runs", nil, a, ops(ins("abcé€")))
	wantDelta(t, "to no runs", a, nil, ops(gone(5)))
	wantDelta(t, "to itself", a, a, ops(keep(5)))
	wantDelta(t, "a long one to itself", full(1, 1000), full(1, 1000), ops(keep(1000)))
	wantDelta(t, "with nothing in common", a, runs(run(1, 1, 0, "abc")), ops(ins("abc"), gone(5)))
	wantDelta(t, "1000 to 1000 others", full(1, 1000), full(2, 1000), ops(ins(strings.Repeat("é", 1000)), gone(1000)))
	wantDelta(t, "one atom less", a, runs(run(0, 1, 0, "ab"), run(2, 7, 5, "é€")), ops(keep(2), gone(1), keep(2)))
	wantDelta(t, "one more, amid a run", a, runs(run(0, 1, 0, "a"), run(0, 3, 0, "ü"), run(0, 1, 1, "bc"), run(2, 7, 5, "é€")), ops(keep(1), ins("ü"), keep(4)))
	wantDelta(t, "new ones on both sides of one that goes", a, runs(run(0, 1, 0, "a"), run(0, 3, 0, "x"), run(0, 4, 0, "y"), run(0, 1, 2, "c"), run(2, 7, 5, "é€")), ops(keep(1), ins("xy"), gone(1), keep(3)))
	wantDelta(t, "at the ends", a, runs(run(0, 3, 0, "x"), run(0, 1, 0, "abc"), run(2, 7, 5, "é€"), run(0, 3, 1, "y")), ops(ins("x"), keep(5), ins("y")))
	wantDelta(t, "the ends go", a, runs(run(0, 1, 1, "bc"), run(2, 7, 5, "é")), ops(gone(1), keep(3), gone(1)))
	wantDelta(t, "the same text, other atoms", runs(run(0, 1, 0, "aa")), runs(run(0, 1, 1, "a"), run(0, 2, 0, "a")), ops(gone(1), keep(1), ins("a")))
	for _, c := range []struct {
		what     string
		from, to []api.Run
	}{
		{"another order", a, runs(run(2, 7, 5, "é€"), run(0, 1, 0, "abc"))},
		{"another order amid a run", a, runs(run(0, 1, 1, "b"), run(0, 1, 0, "a"))},
		{"another order, others between", a, runs(run(0, 1, 2, "c"), run(0, 3, 0, "x"), run(0, 1, 0, "a"))},
		{"unlike code points", a, runs(run(0, 1, 0, "abC"))},
		{"unlike code points of one", a, runs(run(2, 7, 6, "é"))},
	} {
		holdDelta(t, c.from, c.to)
		holdDelta(t, c.to, c.from)
		if d, e := merge.Delta(c.from, c.to); len(d) > 0 || e != api.ErrMergeForm {
			t.Errorf("P14.2: %s: %s, %d", c.what, show(d), e)
		}
	}
}

// As many operations as a delta between documents can have.
func TestDeltaMostOperations(t *testing.T) {
	var from, to []api.Run
	for i := range 500 {
		from = append(from, run(0, 1, 2*i, "k"), run(0, 2, 2*i, "g"))
		to = append(to, run(0, 1, 2*i, "k"), run(0, 3, 2*i, "p"))
	}
	holdDelta(t, from, to)
	if d, e := merge.Delta(from, to); len(d) != 1500 || e != api.OK {
		t.Errorf("P14.2: %d operations, %d", len(d), e)
	}
}

// shortDocs are all rows of at most n of a list's units, no atom twice.
func shortDocs(of []unit, n int) [][]api.Run {
	var all [][]api.Run
	var grow func(l []unit)
	grow = func(l []unit) {
		all = append(all, runsOf(l))
		for _, u := range of {
			if len(l) < n && !has(l, u) {
				grow(append(slices.Clone(l), u))
			}
		}
	}
	grow(nil)
	return all
}

func TestAllShortMerges(t *testing.T) {
	for _, docs := range [][][]api.Run{
		shortDocs([]unit{{0, 1, 0, 'a'}, {0, 1, 1, 'b'}, {0, 1, 2, 'a'}, {1, 1, 0, 'a'}}, 4),
		shortDocs([]unit{{0, 1, 0, 'a'}, {0, 1, 0, 'b'}, {0, 1, 1, 'b'}, {0, 2, 0, 'a'}}, 3),
	} {
		for _, base := range docs {
			for _, x := range docs {
				for _, y := range docs {
					for _, n := range [][2]int{{1, 2}, {2, 2}, {3, 2}} {
						hold(t, base, x, y, n[0], n[1])
					}
					if t.Failed() {
						return
					}
				}
			}
		}
	}
}

func TestAllShortDeltas(t *testing.T) {
	docs := shortDocs([]unit{{0, 1, 0, 'a'}, {0, 1, 1, 'b'}, {0, 1, 1, 'c'}, {0, 1, 2, 'é'}, {1, 1, 0, 'b'}}, 5)
	for _, from := range docs {
		for _, to := range docs {
			holdDelta(t, from, to)
			if t.Failed() {
				return
			}
		}
	}
}

// edited is a document behind some deltas, each of an origin of its own.
func edited(r *rand.Rand, l []api.Run, client int, times int, most int) []api.Run {
	for seq := 1; seq <= times; seq++ {
		became, e := doc.Apply(l, someDelta(r, doc.Len(l), most), api.Origin{Client: client, Seq: seq})
		if e == api.OK {
			l = became
		}
	}
	return l
}

// someDelta keeps and deletes pieces of up to most code points, and puts some in, of few kinds.
func someDelta(r *rand.Rand, base int, most int) []api.Op {
	var d []api.Op
	for base > 0 || len(d) == 0 {
		if r.Intn(3) == 0 || base == 0 {
			var s string
			for range 1 + r.Intn(most) {
				s += string([]rune{'a', 'b', 'é', 0x1F600}[r.Intn(4)])
			}
			d = append(d, ins(s))
			continue
		}
		n := 1 + r.Intn(min(base, most))
		if r.Intn(4) == 0 {
			d = append(d, gone(n))
		} else {
			d = append(d, keep(n))
		}
		base -= n
	}
	return d
}

// bent is a document with something in it turned: two runs change places, an atom of another document comes in, a code point is another one.
func bent(r *rand.Rand, l []api.Run, other []api.Run) []api.Run {
	all, more := unitsOf(l), unitsOf(other)
	switch r.Intn(4) {
	case 0:
		if len(all) > 1 {
			i, j := r.Intn(len(all)), r.Intn(len(all))
			all[i], all[j] = all[j], all[i]
		}
	case 1:
		if len(more) > 0 {
			all = slices.Insert(all, r.Intn(len(all)+1), more[r.Intn(len(more))])
		}
	case 2:
		if len(all) > 0 {
			all[r.Intn(len(all))].point = 'z'
		}
	}
	return runsOf(all)
}

// Sides that came of base by edits, as branches and editors make them.
func TestWalks(t *testing.T) {
	r := rand.New(rand.NewSource(14))
	count := map[api.Errno]int{}
	for i := 0; i < 6000 && !t.Failed(); i++ {
		most := 1 + r.Intn(6)
		base := edited(r, nil, 0, r.Intn(8), most)
		x, y := edited(r, base, 1, r.Intn(4), most), edited(r, base, 2, r.Intn(4), most)
		nx, ny := 1+r.Intn(3), 1+r.Intn(3)
		both, e := hold(t, base, x, y, nx, ny)
		if e != api.OK {
			t.Errorf("P14.1: sides that came of base: %d", e)
		}
		holdBase(t, base, x, nx, ny)
		for _, from := range [][]api.Run{base, x, y, both} {
			for _, to := range [][]api.Run{base, x, y, both} {
				holdDelta(t, from, to)
			}
		}
		_, e = hold(t, bent(r, base, x), bent(r, x, y), bent(r, y, x), nx, ny)
		count[e]++
		holdDelta(t, bent(r, x, y), bent(r, both, base))
	}
	for _, e := range []api.Errno{api.OK, api.ErrDocForm, api.ErrMergeForm} {
		if count[e] < 100 {
			t.Errorf("the walks come to %d only %d times", e, count[e])
		}
	}
}

// TestGreatWalks does the same with documents about as long as they can be.
func TestGreatWalks(t *testing.T) {
	r := rand.New(rand.NewSource(141))
	count := map[api.Errno]int{}
	for i := 0; i < 40 && !t.Failed(); i++ {
		base := edited(r, full(99, 300+r.Intn(400)), 0, 2, 20)
		x, y := edited(r, base, 1, 2, 20), edited(r, base, 2, 2, 20)
		both, e := hold(t, base, x, y, i%2, 1)
		count[e]++
		holdBase(t, base, x, 1, 2)
		holdDelta(t, x, both)
		holdDelta(t, base, y)
	}
	if count[api.OK] < 5 || count[api.ErrDeltaLength] < 5 {
		t.Errorf("the walks come to %v", count)
	}
}

func overlap(a string, b string) bool {
	x, y := uintptr(unsafe.Pointer(unsafe.StringData(a))), uintptr(unsafe.Pointer(unsafe.StringData(b)))
	return len(a) > 1 && len(b) > 1 && x < y+uintptr(len(b)) && y < x+uintptr(len(a))
}

// TestNewMemory holds that no answer shares memory with what was handed in or with another answer, and that nothing handed in is changed.
func TestNewMemory(t *testing.T) {
	word := strings.Clone("some text é€")
	base := append(make([]api.Run, 0, 8), run(0, 1, 0, word[:6]), run(0, 2, 0, word[5:]))
	x := append(make([]api.Run, 0, 8), run(0, 1, 0, word[:6]), run(0, 3, 0, word[2:]), run(0, 2, 0, word[5:]))
	y := append(make([]api.Run, 0, 8), run(0, 4, 0, word), run(0, 1, 0, word[:4]), run(0, 2, 0, word[5:]))
	was := [][]api.Run{slices.Clone(base[:8]), slices.Clone(x[:8]), slices.Clone(y[:8])}
	var answers [][]api.Run
	var deltas [][]api.Op
	for range 2 {
		for _, side := range [][]api.Run{base, y} {
			l, e := merge.Docs(base, x, side, 1, 2)
			d, f := merge.Delta(side, x)
			if e != api.OK || f != api.OK {
				t.Fatal(e, f)
			}
			answers, deltas = append(answers, l), append(deltas, d)
		}
	}
	if !slices.Equal(answers[0], answers[2]) || !slices.Equal(answers[1], answers[3]) || !slices.Equal(deltas[0], deltas[2]) || !slices.Equal(deltas[1], deltas[3]) {
		t.Errorf("R6: asked again, the answers are others")
	}
	var texts []string
	for i, l := range answers {
		for _, r := range l {
			texts = append(texts, r.Text)
		}
		for _, op := range deltas[i] {
			texts = append(texts, op.Text)
		}
	}
	for i, s := range texts {
		if overlap(s, word) || slices.ContainsFunc(texts[:i], func(r string) bool { return overlap(r, s) }) {
			t.Errorf("R5: the text %q shares memory", s)
		}
	}
	for i := range answers {
		for j := range answers[i][:cap(answers[i])] {
			answers[i][:cap(answers[i])][j] = run(7, 7, 7, "gone")
		}
		for j := range deltas[i][:cap(deltas[i])] {
			deltas[i][:cap(deltas[i])][j] = keep(77)
		}
	}
	for i, l := range [][]api.Run{base, x, y} {
		if !slices.Equal(l[:8], was[i]) {
			t.Errorf("R5: what was handed in has changed: %s", show(l))
		}
	}
}
