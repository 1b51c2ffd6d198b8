package ot_test

import (
	"cmp"
	"fmt"
	"math/rand"
	"slices"
	"strings"
	"testing"
	"unicode/utf8"
	"unsafe"

	"oxbow/api"
	"oxbow/delta"
	"oxbow/ot"
)

func keep(n int) api.Op        { return api.Op{Kind: api.OpKeep, N: n} }
func gone(n int) api.Op        { return api.Op{Kind: api.OpDelete, N: n} }
func ins(s string) api.Op      { return api.Op{Kind: api.OpInsert, Text: s} }
func ops(l ...api.Op) []api.Op { return l }

// show tells a delta in a line, however long it is.
func show(d []api.Op) string {
	const most = 12
	var l []string
	for _, o := range d[:min(most, len(d))] {
		l = append(l, fmt.Sprintf("%d %d %.40q", o.Kind, o.N, o.Text))
	}
	if len(d) > most {
		l = append(l, fmt.Sprintf(".. %d in all", len(d)))
	}
	return "[" + strings.Join(l, ", ") + "]"
}

// times is a row of operations, so many times.
func times(n int, l ...api.Op) []api.Op { return slices.Repeat(l, n) }

// An item is a code point that knows where it comes from: the text (who 0) or what a delta put in there. By place and rank it is ordered among those that other deltas of the same text put in.
type item struct {
	who, num    int
	point       rune
	place, rank int
}

// rowOf are the items of a text.
func rowOf(s string) []item {
	var row []item
	for i, r := range []rune(s) {
		row = append(row, item{0, i, r, i, 9})
	}
	return row
}

// became is the row that a delta makes of another one; who put in what is new, and how it is ranked.
func became(row []item, d []api.Op, who int, rank int) []item {
	var out []item
	d, _ = delta.Normal(d)
	at, num := 0, 0
	for _, o := range d {
		for _, r := range o.Text {
			out = append(out, item{who, num, r, at, rank})
			num++
		}
		if o.Kind == api.OpKeep {
			out = append(out, row[at:at+o.N]...)
		}
		at += o.N
	}
	return out
}

func textOf(row []item) string {
	var b strings.Builder
	for _, i := range row {
		b.WriteRune(i.point)
	}
	return b.String()
}

// between is the normal delta from a row to another one, in which the items that both have stand in the same order.
func between(from []item, to []item) []api.Op {
	had := map[item]bool{}
	for _, i := range from {
		had[i] = true
	}
	var d []api.Op
	at := 0
	for _, i := range to {
		if !had[i] {
			d = append(d, ins(string(i.point)))
			continue
		}
		for ; from[at] != i; at++ {
			d = append(d, gone(1))
		}
		d = append(d, keep(1))
		at++
	}
	for range from[at:] {
		d = append(d, gone(1))
	}
	d, e := delta.Normal(d)
	if e != api.OK {
		return ops(api.Op{Kind: -int(e)})
	}
	return d
}

// composed is P10.1's delta, by items.
func composed(s string, a []api.Op, b []api.Op) []api.Op {
	row := rowOf(s)
	return between(row, became(became(row, a, 1, 0), b, 2, 0))
}

// transformed is P10.2's row, by items: all of b's target but what a deletes, and what a puts in, each at its place.
func transformed(s string, a []api.Op, b []api.Op, first bool) (from []item, to []item) {
	rank := 3
	if first {
		rank = 1
	}
	row := rowOf(s)
	from = became(row, b, 2, 2)
	mine := became(row, a, 1, rank)
	for _, i := range from {
		if i.who == 2 || slices.Contains(mine, i) {
			to = append(to, i)
		}
	}
	for _, i := range mine {
		if i.who == 1 {
			to = append(to, i)
		}
	}
	slices.SortStableFunc(to, func(x, y item) int {
		return cmp.Or(cmp.Compare(x.place, y.place), cmp.Compare(x.rank, y.rank))
	})
	return from, to
}

func lengthsOf(d []api.Op) (base int, target int) {
	base, _ = delta.Base(d)
	target, _ = delta.Target(d)
	return base, target
}

// compose and transform hold that the answer is the right one, and that nothing that was handed in has changed.
func compose(t *testing.T, s string, a []api.Op, b []api.Op) []api.Op {
	t.Helper()
	wasA, wasB := slices.Clone(a), slices.Clone(b)
	d, e := ot.Compose(a, b)
	if want := composed(s, a, b); e != api.OK || !slices.Equal(d, want) {
		t.Errorf("P10.1: Compose(%s, %s): %s, %d, want %s", show(a), show(b), show(d), e, show(want))
	}
	if !slices.Equal(a, wasA) || !slices.Equal(b, wasB) {
		t.Errorf("R5: Compose has changed %s, %s", show(wasA), show(wasB))
	}
	return d
}

func transform(t *testing.T, s string, a []api.Op, b []api.Op, first bool) ([]api.Op, api.Errno) {
	t.Helper()
	wasA, wasB := slices.Clone(a), slices.Clone(b)
	d, e := ot.Transform(a, b, first)
	from, to := transformed(s, a, b, first)
	if len(to) > 1000 {
		if e != api.ErrDeltaLength || len(d) != 0 {
			t.Errorf("P10.2: Transform(%s, %s, %v): %s, %d, want %d", show(a), show(b), first, show(d), e, api.ErrDeltaLength)
		}
	} else if want := between(from, to); e != api.OK || !slices.Equal(d, want) {
		t.Errorf("P10.2: Transform(%s, %s, %v): %s, %d, want %s", show(a), show(b), first, show(d), e, show(want))
	}
	if !slices.Equal(a, wasA) || !slices.Equal(b, wasB) {
		t.Errorf("R5: Transform has changed %s, %s", show(wasA), show(wasB))
	}
	return d, e
}

// bothWays holds that two deltas of a text come to the same, whichever is first done.
func bothWays(t *testing.T, s string, a []api.Op, b []api.Op) {
	t.Helper()
	for _, first := range []bool{true, false} {
		x, e := transform(t, s, a, b, first)
		y, other := transform(t, s, b, a, !first)
		if e != other {
			t.Errorf("P10.4: Transform of %s and %s: %d and %d", show(a), show(b), e, other)
		}
		if e != api.OK {
			continue
		}
		one, e := ot.Compose(a, y)
		two, other := ot.Compose(b, x)
		if !slices.Equal(one, two) || e != api.OK || other != api.OK {
			t.Errorf("P10.4: of %s and %s, %v: %s, %d or %s, %d", show(a), show(b), first, show(one), e, show(two), other)
		}
	}
}

func invert(t *testing.T, s string, d []api.Op) {
	t.Helper()
	was := slices.Clone(d)
	row := rowOf(s)
	target := became(row, d, 1, 0)
	back, e := ot.Invert(s, d)
	if want := between(target, row); !slices.Equal(back, want) || e != api.OK {
		t.Errorf("P10.3: Invert(%.60q, %s): %s, %d, want %s", s, show(d), show(back), e, show(want))
	}
	if got, e := delta.Apply(textOf(target), back); got != s || e != api.OK {
		t.Errorf("P10.4: %s of %.60q gives %.60q, %d, want %.60q", show(back), textOf(target), got, e, s)
	}
	again, e := ot.Invert(textOf(target), back)
	if n, _ := delta.Normal(d); !slices.Equal(again, n) || e != api.OK {
		t.Errorf("P10.3: Invert of Invert of %s: %s, %d", show(d), show(again), e)
	}
	if !slices.Equal(d, was) {
		t.Errorf("R5: Invert has changed %s", show(was))
	}
}

// fewDeltas are all rows of at most so many short operations, by their bases.
func fewDeltas(most int, longest int) map[int][][]api.Op {
	all := map[int][][]api.Op{}
	var d []api.Op
	var deeper func(left int)
	deeper = func(left int) {
		base, _ := lengthsOf(d)
		if base > longest {
			return
		}
		all[base] = append(all[base], slices.Clone(d))
		for _, o := range []api.Op{keep(1), keep(2), gone(1), gone(2), ins("x"), ins("y😀")} {
			if left > 0 {
				d = append(d, o)
				deeper(left - 1)
				d = d[:len(d)-1]
			}
		}
	}
	deeper(most)
	return all
}

const sample = "aé€😀\x00b\ufffdcdef"

func start(n int) string { return string([]rune(sample)[:n]) }

func TestEveryShortPair(t *testing.T) {
	all := fewDeltas(4, 4)
	for base := range 5 {
		for _, a := range all[base] {
			for i, b := range all[base] {
				if len(a) == 4 && len(b) == 4 && i%7 > 0 {
					continue
				}
				bothWays(t, start(base), a, b)
				if t.Failed() {
					return
				}
			}
		}
	}
}

func TestEveryShortCompose(t *testing.T) {
	all := fewDeltas(4, 4)
	behind := fewDeltas(3, 6)
	for base := range 5 {
		for _, a := range all[base] {
			_, target := lengthsOf(a)
			for _, b := range behind[target] {
				compose(t, start(base), a, b)
				if t.Failed() {
					return
				}
			}
		}
	}
}

func TestEveryShortInvert(t *testing.T) {
	all := fewDeltas(6, 5)
	for base := range 6 {
		for _, d := range all[base] {
			invert(t, start(base), d)
			if t.Failed() {
				return
			}
		}
	}
}

// TestTheThirdOne: Compose of (a, b) and c is that of a and (b, c).
func TestTheThirdOne(t *testing.T) {
	all := fewDeltas(3, 9)
	one := fewDeltas(3, 2)
	for base := range 3 {
		for _, a := range one[base] {
			_, target := lengthsOf(a)
			for _, b := range all[target] {
				_, target := lengthsOf(b)
				for i, c := range all[target] {
					if i%5 == len(a)%5 && !t.Failed() {
						third(t, a, b, c)
					}
				}
			}
		}
	}
}

func third(t *testing.T, a []api.Op, b []api.Op, c []api.Op) {
	t.Helper()
	ab, e1 := ot.Compose(a, b)
	bc, e2 := ot.Compose(b, c)
	x, e3 := ot.Compose(ab, c)
	y, e4 := ot.Compose(a, bc)
	if !slices.Equal(x, y) || e1 != api.OK || e2 != api.OK || e3 != api.OK || e4 != api.OK {
		t.Errorf("P10.4: of %s, %s, %s: %s or %s (%d %d %d %d)", show(a), show(b), show(c), show(x), show(y), e1, e2, e3, e4)
	}
}

func anyText(r *rand.Rand, n int) string {
	points := []rune(sample)
	var b strings.Builder
	for range n {
		b.WriteRune(points[r.Intn(len(points))])
	}
	return b.String()
}

// anyDelta is a delta of a base, by pieces of at most so many code points.
func anyDelta(r *rand.Rand, base int, piece int) []api.Op {
	var d []api.Op
	target := 0
	for base > 0 || r.Intn(3) > 0 {
		n := 1 + r.Intn(piece)
		switch r.Intn(4) {
		case 0, 1:
			if n = min(n, base); n > 0 && target+n <= 1000 {
				d, base, target = append(d, keep(n)), base-n, target+n
			}
		case 2:
			if n = min(n, base); n > 0 {
				d, base = append(d, gone(n)), base-n
			}
		case 3:
			if target+n <= 1000 {
				d, target = append(d, ins(anyText(r, n))), target+n
			}
		}
	}
	return d
}

func TestAnyDeltas(t *testing.T) {
	r := rand.New(rand.NewSource(10))
	for i := range 400 {
		base := []int{0, 1, 7, 60, 500, 1000}[i%6]
		piece := []int{1, 3, 40}[i%3]
		s := anyText(r, base)
		a, b := anyDelta(r, base, piece), anyDelta(r, base, 1+r.Intn(piece))
		bothWays(t, s, a, b)
		invert(t, s, a)
		_, target := lengthsOf(a)
		c := anyDelta(r, target, piece)
		compose(t, s, a, c)
		_, target = lengthsOf(c)
		third(t, a, c, anyDelta(r, target, piece))
		if t.Failed() {
			return
		}
	}
}

func TestExamples(t *testing.T) {
	a, b := ops(keep(1), ins("x"), keep(1)), ops(keep(1), ins("y"), keep(1))
	x, e := ot.Transform(a, b, true)
	if !slices.Equal(x, ops(keep(1), ins("x"), keep(2))) || e != api.OK {
		t.Errorf("P10.2: %s, %d", show(x), e)
	}
	if d, e := ot.Transform(a, b, false); !slices.Equal(d, ops(keep(2), ins("x"), keep(1))) || e != api.OK {
		t.Errorf("P10.2: %s, %d", show(d), e)
	}
	if d, e := ot.Compose(b, x); !slices.Equal(d, ops(keep(1), ins("xy"), keep(1))) || e != api.OK {
		t.Errorf("P10.1: %s, %d", show(d), e)
	}
	if d, e := ot.Transform(ops(gone(2)), b, true); !slices.Equal(d, ops(gone(1), keep(1), gone(1))) || e != api.OK {
		t.Errorf("P10.2: %s, %d", show(d), e)
	}
	if d, e := ot.Transform(b, ops(gone(2)), true); !slices.Equal(d, ops(ins("y"))) || e != api.OK {
		t.Errorf("P10.2: %s, %d", show(d), e)
	}
	if d, e := ot.Invert("abc", ops(keep(1), ins("x"), gone(1), keep(1))); !slices.Equal(d, ops(keep(1), ins("b"), gone(1), keep(1))) || e != api.OK {
		t.Errorf("P10.3: %s, %d", show(d), e)
	}
}

func TestTransform(t *testing.T) {
	all := strings.Repeat("a", 1000)
	for i, c := range []struct {
		a, b          []api.Op
		ahead, behind []api.Op // first, and not
	}{
		{ops(), ops(), ops(), ops()},
		{ops(ins("x")), ops(), ops(ins("x")), ops(ins("x"))},
		{ops(), ops(ins("yé")), ops(keep(2)), ops(keep(2))},
		{ops(ins("x")), ops(ins("yé")), ops(ins("x"), keep(2)), ops(keep(2), ins("x"))},                                                               // of the empty text
		{ops(keep(2), ins("x")), ops(keep(2), ins("yé")), ops(keep(2), ins("x"), keep(2)), ops(keep(4), ins("x"))},                                    // at the end
		{ops(keep(1), ins("x"), keep(1)), ops(keep(2), ins("yé")), ops(keep(1), ins("x"), keep(3)), ops(keep(1), ins("x"), keep(3))},                  // not at the same place
		{ops(keep(2), ins("x")), ops(keep(1), ins("yé"), keep(1)), ops(keep(4), ins("x")), ops(keep(4), ins("x"))},                                    //
		{ops(keep(2), ins("x"), keep(2)), ops(keep(1), gone(2), keep(1)), ops(keep(1), ins("x"), keep(1)), ops(keep(1), ins("x"), keep(1))},           // within what the other deletes
		{ops(keep(1), ins("x"), keep(2)), ops(ins("y"), gone(3)), ops(keep(1), ins("x")), ops(keep(1), ins("x"))},                                     // behind what it puts in ahead of that
		{ops(keep(1), ins("x"), keep(2)), ops(gone(3), ins("y")), ops(keep(1), ins("x")), ops(keep(1), ins("x"))},                                     // though it says it behind that
		{ops(keep(3), ins("x")), ops(gone(3), ins("y")), ops(keep(1), ins("x")), ops(keep(1), ins("x"))},                                              //
		{ops(ins("x"), keep(3)), ops(gone(3), ins("y")), ops(ins("x"), keep(1)), ops(keep(1), ins("x"))},                                              //
		{ops(gone(2), ins("x"), keep(1)), ops(keep(1), gone(1), ins("y"), keep(1)), ops(ins("x"), gone(1), keep(2)), ops(ins("x"), gone(1), keep(2))}, // the place of x is 0
		{ops(gone(3)), ops(gone(3)), ops(), ops()},
		{ops(gone(2), keep(1)), ops(keep(1), gone(2)), ops(gone(1)), ops(gone(1))},
		{ops(gone(3)), ops(keep(3)), ops(gone(3)), ops(gone(3))},
		{ops(gone(1), keep(1), keep(1), ins("x"), ins("y")), ops(keep(1), keep(2)), ops(gone(1), keep(2), ins("xy")), ops(gone(1), keep(2), ins("xy"))}, // the other keeps all
		{ops(keep(3)), ops(gone(1), keep(2), ins("yz")), ops(keep(4)), ops(keep(4))},
		{ops(gone(1000)), ops(ins(all), gone(1000)), ops(keep(1000)), ops(keep(1000))},
		{ops(gone(1000), ins(all)), ops(gone(1000)), ops(ins(all)), ops(ins(all))},
	} {
		if d, e := ot.Transform(c.a, c.b, true); !slices.Equal(d, c.ahead) || e != api.OK {
			t.Errorf("P10.2: case %d: Transform(%s, %s, true): %s, %d, want %s", i, show(c.a), show(c.b), show(d), e, show(c.ahead))
		}
		if d, e := ot.Transform(c.a, c.b, false); !slices.Equal(d, c.behind) || e != api.OK {
			t.Errorf("P10.2: case %d: Transform(%s, %s, false): %s, %d, want %s", i, show(c.a), show(c.b), show(d), e, show(c.behind))
		}
	}
}

func TestCompose(t *testing.T) {
	all := strings.Repeat("é", 1000)
	for i, c := range []struct{ a, b, want []api.Op }{
		{ops(), ops(), ops()},
		{ops(ins("ab")), ops(gone(2)), ops()},
		{ops(ins("ab")), ops(keep(1), ins("€"), keep(1)), ops(ins("a€b"))},
		{ops(gone(2)), ops(), ops(gone(2))},
		{ops(gone(2)), ops(ins("x")), ops(ins("x"), gone(2))},
		{ops(keep(1), gone(1), keep(1)), ops(keep(1), ins("x"), keep(1)), ops(keep(1), ins("x"), gone(1), keep(1))},
		{ops(keep(1), gone(1), keep(1)), ops(gone(1), keep(1)), ops(gone(2), keep(1))},
		{ops(keep(1), ins("x"), keep(1)), ops(keep(1), gone(1), keep(1)), ops(keep(2))},
		{ops(keep(1), ins("x"), keep(1)), ops(gone(1), keep(1), gone(1)), ops(ins("x"), gone(2))},
		{ops(ins("x"), keep(1), ins("y"), keep(1), ins("z")), ops(keep(2), gone(1), keep(2)), ops(ins("x"), keep(2), ins("z"))},
		{ops(keep(1), keep(1)), ops(keep(1), keep(1)), ops(keep(2))},
		{ops(keep(1), ins("xyz"), gone(1)), ops(keep(2), gone(1), ins("é"), keep(1)), ops(keep(1), ins("xéz"), gone(1))},
		{ops(gone(1), ins("a"), gone(1), ins("b")), ops(keep(1), ins("c"), keep(1)), ops(ins("acb"), gone(2))},
		{ops(keep(1000)), ops(keep(1000)), ops(keep(1000))},
		{ops(ins(all), gone(1000)), ops(gone(1000), ins(all)), ops(ins(all), gone(1000))},
		{times(1000, gone(1), ins("x")), times(1000, gone(1), ins("é")), ops(ins(all), gone(1000))},
		{times(1000, gone(1), ins("é")), times(1000, keep(1)), ops(ins(all), gone(1000))},
		{times(1000, keep(1)), times(1000, gone(1), ins("é")), ops(ins(all), gone(1000))},
		{times(500, keep(1), gone(1), ins("x")), times(500, keep(1), gone(1), ins("y")), times(500, keep(1), ins("y"), gone(1))},
		{times(500, keep(1), gone(1), ins("x")), times(500, gone(1), ins("y"), keep(1)), append(ops(ins("yx"), gone(2)), ops(ins(strings.Repeat("yx", 499)), gone(998))...)},
	} {
		want, _ := delta.Normal(c.want)
		if d, e := ot.Compose(c.a, c.b); !slices.Equal(d, want) || e != api.OK {
			t.Errorf("P10.1: case %d: Compose(%s, %s): %s, %d, want %s", i, show(c.a), show(c.b), show(d), e, show(want))
		}
	}
}

// TestKeepsAll: Transform over a delta that keeps all is the Normal, and what keeps all keeps all; so with Compose and Invert.
func TestKeepsAll(t *testing.T) {
	for base, l := range fewDeltas(5, 5) {
		for _, d := range l {
			if t.Failed() {
				return
			}
			all := times(base, keep(1))
			_, target := lengthsOf(d)
			n, _ := delta.Normal(d)
			kept, _ := delta.Normal(times(target, keep(1)))
			for _, first := range []bool{true, false} {
				if got, e := ot.Transform(d, all, first); !slices.Equal(got, n) || e != api.OK {
					t.Errorf("P10.4: Transform(%s, keep %d, %v): %s, %d", show(d), base, first, show(got), e)
				}
				if got, e := ot.Transform(all, d, first); !slices.Equal(got, kept) || e != api.OK {
					t.Errorf("P10.2: Transform(keep %d, %s, %v): %s, %d", base, show(d), first, show(got), e)
				}
			}
			if got, e := ot.Compose(all, d); !slices.Equal(got, n) || e != api.OK {
				t.Errorf("P10.1: Compose(keep %d, %s): %s, %d", base, show(d), show(got), e)
			}
			if got, e := ot.Compose(d, kept); !slices.Equal(got, n) || e != api.OK {
				t.Errorf("P10.1: Compose(%s, keep %d): %s, %d", show(d), target, show(got), e)
			}
		}
	}
}

// TestThereAndBack: a delta and its Invert, composed, keep what it keeps and give what was.
func TestThereAndBack(t *testing.T) {
	for base, l := range fewDeltas(4, 5) {
		for _, d := range l {
			if t.Failed() {
				return
			}
			back, _ := ot.Invert(start(base), d)
			both, e := ot.Compose(d, back)
			if s, f := delta.Apply(start(base), both); s != start(base) || e != api.OK || f != api.OK {
				t.Errorf("P10.4: %s and %s: %q, %d, %d", show(d), show(back), s, e, f)
			}
		}
	}
}

func TestTargetsOf1000And1001(t *testing.T) {
	half := strings.Repeat("é", 500)
	for _, c := range []struct {
		a, b []api.Op
		e    api.Errno
	}{
		{ops(keep(998), ins("a")), ops(keep(998), ins("b")), api.OK},
		{ops(keep(999), ins("a")), ops(keep(999), ins("b")), api.ErrDeltaLength},
		{ops(keep(999), ins("a")), ops(ins("b"), keep(999)), api.ErrDeltaLength},
		{ops(keep(998), gone(1), ins("a")), ops(keep(999), ins("b")), api.OK},
		{ops(keep(999), ins("a")), ops(keep(998), gone(1), ins("b")), api.OK},
		{ops(keep(998), gone(1), ins("a")), ops(keep(998), gone(1), ins("b")), api.OK},
		{ops(keep(998), gone(1), ins("ab")), ops(keep(998), gone(1), ins("c")), api.ErrDeltaLength}, // the one that both delete goes once
		{ops(keep(997), gone(1), ins("ab")), ops(keep(996), gone(2), ins("c")), api.OK},
		{ops(ins(half)), ops(ins(half)), api.OK},
		{ops(ins(half)), ops(ins(half + "a")), api.ErrDeltaLength},
		{ops(ins(half + half)), ops(ins("a")), api.ErrDeltaLength},
		{ops(ins(half + half)), ops(), api.OK},
		{ops(ins(half+half), gone(1000)), ops(keep(1000)), api.OK},
		{ops(ins(half+half), gone(1000)), ops(gone(1000)), api.OK},
		{ops(ins(half+half), gone(1000)), ops(gone(1000), ins("a")), api.ErrDeltaLength},
		{times(500, keep(1), gone(1), ins("x")), times(500, gone(1), keep(1), ins("y")), api.OK},
	} {
		base, _ := lengthsOf(c.a)
		bothWays(t, strings.Repeat("x", base), c.a, c.b)
		for _, first := range []bool{true, false} {
			if d, e := ot.Transform(c.a, c.b, first); e != c.e || e != api.OK && len(d) != 0 {
				t.Errorf("P10.2: Transform(%s, %s, %v): %s, %d, want %d", show(c.a), show(c.b), first, show(d), e, c.e)
			}
		}
	}
}

func TestErrors(t *testing.T) {
	form, length := ops(keep(1), keep(0)), ops(keep(1000), ins("x"))
	for _, c := range []struct {
		a, b               []api.Op
		compose, transform api.Errno
	}{
		{form, ops(keep(1)), api.ErrDeltaForm, api.ErrDeltaForm},
		{length, ops(keep(1)), api.ErrDeltaLength, api.ErrDeltaLength},
		{ops(keep(1)), form, api.ErrDeltaForm, api.ErrDeltaForm},
		{ops(keep(1)), length, api.ErrDeltaLength, api.ErrDeltaLength},
		{form, length, api.ErrDeltaForm, api.ErrDeltaForm}, // a's error is the answer, whatever b has
		{length, form, api.ErrDeltaLength, api.ErrDeltaLength},
		{form, form, api.ErrDeltaForm, api.ErrDeltaForm},
		{ops(keep(5)), form, api.ErrDeltaForm, api.ErrDeltaForm},           // the lengths come last
		{ops(keep(1), ins("x")), ops(keep(1)), api.ErrDeltaLength, api.OK}, // a's target is not b's base
		{ops(keep(1), ins("x")), ops(keep(2)), api.OK, api.ErrDeltaLength}, // the bases are not the same
		{ops(keep(2)), ops(keep(1), ins("x")), api.ErrDeltaLength, api.ErrDeltaLength},
		{ops(), ops(keep(1)), api.ErrDeltaLength, api.ErrDeltaLength},
		{ops(keep(1)), ops(), api.ErrDeltaLength, api.ErrDeltaLength},
		{ops(gone(1)), ops(), api.OK, api.ErrDeltaLength},
		{ops(ins("é")), ops(keep(2)), api.ErrDeltaLength, api.ErrDeltaLength}, // two bytes there are, two code points there are not
		{ops(ins("é")), ops(keep(1)), api.OK, api.ErrDeltaLength},
		{times(3000, keep(1)), ops(), api.ErrDeltaLength, api.ErrDeltaLength},
		{times(3001, keep(1)), ops(), api.ErrDeltaForm, api.ErrDeltaForm},
		{ops(), times(3001, gone(1)), api.ErrDeltaForm, api.ErrDeltaForm},
		{ops(ins("\xff")), ops(), api.ErrDeltaForm, api.ErrDeltaForm},
		{ops(), ops(ins("a\xc3")), api.ErrDeltaForm, api.ErrDeltaForm},
		{ops(api.Op{}), ops(), api.ErrDeltaForm, api.ErrDeltaForm},
	} {
		if d, e := ot.Compose(c.a, c.b); e != c.compose || e != api.OK && len(d) != 0 {
			t.Errorf("P10.1: Compose(%s, %s): %s, %d, want %d", show(c.a), show(c.b), show(d), e, c.compose)
		}
		for _, first := range []bool{true, false} {
			if d, e := ot.Transform(c.a, c.b, first); e != c.transform || e != api.OK && len(d) != 0 {
				t.Errorf("P10.2: Transform(%s, %s, %v): %s, %d, want %d", show(c.a), show(c.b), first, show(d), e, c.transform)
			}
		}
	}
}

func TestInvert(t *testing.T) {
	all := strings.Repeat("😀", 1000)
	for _, c := range []struct {
		s       string
		d, want []api.Op
		e       api.Errno
	}{
		{"", nil, nil, api.OK},
		{"", ops(ins("aé")), ops(gone(2)), api.OK},
		{"aé", ops(gone(2)), ops(ins("aé")), api.OK},
		{"aé", ops(keep(1), keep(1)), ops(keep(2)), api.OK},
		{"aé€😀", ops(gone(1), ins("x"), gone(1), keep(1), ins("yz"), keep(1)), ops(ins("aé"), gone(1), keep(1), gone(2), keep(1)), api.OK},
		{all, ops(gone(1000)), ops(ins(all)), api.OK},
		{all, ops(ins(strings.Repeat("a", 1000)), gone(1000)), ops(ins(all), gone(1000)), api.OK},
		{all, times(1000, gone(1), ins("a")), ops(ins(all), gone(1000)), api.OK},
		{all, times(500, keep(1), gone(1), ins("a")), times(500, keep(1), ins("😀"), gone(1)), api.OK},
		{"a", nil, nil, api.ErrDeltaLength},
		{"", ops(keep(1)), nil, api.ErrDeltaLength},
		{"é", ops(keep(2)), nil, api.ErrDeltaLength},
		{"ab", ops(keep(1)), nil, api.ErrDeltaLength},
		{"a", ops(keep(1), keep(0)), nil, api.ErrDeltaForm},
		{"a", ops(keep(1000), ins("x")), nil, api.ErrDeltaLength},
		{"ab", ops(keep(1), api.Op{Kind: 4, N: 1}), nil, api.ErrDeltaForm}, // R2: ErrDeltaForm is named ahead of the length
		{"\xff", ops(keep(1)), nil, api.ErrText},
		{"\xff", ops(keep(0)), nil, api.ErrText},
		{"\xff", ops(keep(1000), ins("x")), nil, api.ErrText},
		{"\xff", nil, nil, api.ErrText},
		{"a\xed\xa0\x80", ops(gone(2)), nil, api.ErrText},
		{all + "a", ops(keep(1000)), nil, api.ErrDeltaLength},
	} {
		if d, e := ot.Invert(c.s, c.d); !slices.Equal(d, c.want) || e != c.e {
			t.Errorf("P10.3: Invert(%.40q, %s): %s, %d, want %s, %d", c.s, show(c.d), show(d), e, show(c.want), c.e)
		}
	}
}

// shared tells whether a text of a delta has bytes in one of these texts' memory.
func shared(d []api.Op, texts ...string) bool {
	for _, o := range d {
		for _, s := range texts {
			if o.Text == "" || s == "" {
				continue
			}
			x, y := uintptr(unsafe.Pointer(unsafe.StringData(o.Text))), uintptr(unsafe.Pointer(unsafe.StringData(s)))
			if x < y+uintptr(len(s)) && y < x+uintptr(len(o.Text)) {
				return true
			}
		}
	}
	return false
}

func TestNewMemory(t *testing.T) {
	x, y := strings.Repeat("xé", 3), strings.Repeat("yé", 3)
	a, b := ops(keep(1), ins(x), keep(1)), ops(keep(1), ins(y), keep(1))
	one, _ := ot.Transform(a, b, true)
	two, _ := ot.Compose(b, one)
	same, _ := ot.Compose(a, ops(keep(8)))
	s := strings.Repeat("é€", 1)
	back, _ := ot.Invert(s, ops(gone(2)))
	want := [][]api.Op{slices.Clone(one), slices.Clone(two), slices.Clone(same), slices.Clone(back)}
	for i, d := range [][]api.Op{one, two, same, back} {
		if shared(d, x, y, s) {
			t.Errorf("R5: the answer %s has a text that was handed in", show(d))
		}
		clear(a)
		clear(b)
		if !slices.Equal(d, want[i]) {
			t.Errorf("R5: the answer %s was changed by what was handed in", show(want[i]))
		}
	}
	if utf8.RuneCountInString(x) != 6 {
		t.Error("the text was changed")
	}
}
