package merge_test

import (
	"fmt"
	"slices"
	"strings"
	"testing"

	"oxbow/api"
	"oxbow/delta"
	"oxbow/doc"
	"oxbow/merge"
)

func keep(n int) api.Op        { return api.Op{Kind: api.OpKeep, N: n} }
func gone(n int) api.Op        { return api.Op{Kind: api.OpDelete, N: n} }
func ins(s string) api.Op      { return api.Op{Kind: api.OpInsert, Text: s} }
func ops(l ...api.Op) []api.Op { return l }

func run(client int, seq int, from int, s string) api.Run {
	return api.Run{Origin: api.Origin{Client: client, Seq: seq}, From: from, Text: s}
}
func runs(l ...api.Run) []api.Run { return l }

// show tells a document or a delta in a line, however long it is.
func show[T any](l []T) string {
	const most = 8
	var out []string
	for _, x := range l[:min(most, len(l))] {
		s := fmt.Sprintf("%+q", fmt.Sprint(x))
		out = append(out, s[:min(len(s), 60)])
	}
	if len(l) > most {
		out = append(out, fmt.Sprintf(".. %d in all", len(l)))
	}
	return "[" + strings.Join(out, ", ") + "]"
}

// A unit is an atom of the tests' own, with its code point.
type unit struct {
	client, seq, num int
	point            rune
}

func (u unit) same(v unit) bool { return u.client == v.client && u.seq == v.seq && u.num == v.num }

// place is where an atom stands in a row, or -1.
func place(l []unit, u unit) int { return slices.IndexFunc(l, u.same) }

func has(l []unit, u unit) bool { return place(l, u) >= 0 }

// unitsOf are the atoms of a document, one behind the other.
func unitsOf(l []api.Run) []unit {
	var all []unit
	for _, r := range l {
		for i, p := range []rune(r.Text) {
			all = append(all, unit{r.Origin.Client, r.Origin.Seq, r.From + i, p})
		}
	}
	return all
}

// runsOf is the document of atoms, in as few runs as there can be.
func runsOf(all []unit) []api.Run {
	var l []api.Run
	for i, u := range all {
		if i > 0 && u.same(unit{all[i-1].client, all[i-1].seq, all[i-1].num + 1, 0}) {
			l[len(l)-1].Text += string(u.point)
		} else {
			l = append(l, run(u.client, u.seq, u.num, string(u.point)))
		}
	}
	return l
}

func textOf(all []unit) string {
	var s string
	for _, u := range all {
		s += string(u.point)
	}
	return s
}

// unlike tells whether an atom stands in both with unlike code points.
func unlike(a []unit, b []unit) bool {
	return slices.ContainsFunc(a, func(u unit) bool {
		at := place(b, u)
		return at >= 0 && b[at].point != u.point
	})
}

// turned tells whether atoms that both have stand in b in another order than in a.
func turned(a []unit, b []unit) bool {
	var places []int
	for _, u := range b {
		if at := place(a, u); at >= 0 {
			places = append(places, at)
		}
	}
	return !slices.IsSorted(places)
}

// newIn are a side's new atoms, gap by gap: each survivor ends one.
func newIn(side []unit, base []unit, survivors []unit) [][]unit {
	gaps := make([][]unit, len(survivors)+1)
	gap := 0
	for _, u := range side {
		switch {
		case has(survivors, u):
			gap++
		case !has(base, u):
			gaps[gap] = append(gaps[gap], u)
		}
	}
	return gaps
}

// merged is P14.1 by its words.
func merged(base []api.Run, x []api.Run, y []api.Run, nx int, ny int) ([]api.Run, api.Errno) {
	if doc.Check(base) != api.OK || doc.Check(x) != api.OK || doc.Check(y) != api.OK {
		return nil, api.ErrDocForm
	}
	b, p, q := unitsOf(base), unitsOf(x), unitsOf(y)
	both := slices.ContainsFunc(p, func(u unit) bool { return has(q, u) && !has(b, u) })
	if unlike(b, p) || unlike(b, q) || unlike(p, q) || turned(b, p) || turned(b, q) || both {
		return nil, api.ErrMergeForm
	}
	var survivors []unit
	for _, u := range b {
		if has(p, u) && has(q, u) {
			survivors = append(survivors, u)
		}
	}
	inX, inY := newIn(p, b, survivors), newIn(q, b, survivors)
	var all []unit
	for i := range inX {
		s, t := textOf(inX[i]), textOf(inY[i])
		if s < t || s == t && nx <= ny {
			all = append(append(all, inX[i]...), inY[i]...)
		} else {
			all = append(append(all, inY[i]...), inX[i]...)
		}
		if i < len(survivors) {
			all = append(all, survivors[i])
		}
	}
	if len(all) > 1000 {
		return nil, api.ErrDeltaLength
	}
	return runsOf(all), api.OK
}

// hold holds Docs against the chapter's words, and against itself with the sides changed round; it answers what came.
func hold(t *testing.T, base []api.Run, x []api.Run, y []api.Run, nx int, ny int) ([]api.Run, api.Errno) {
	t.Helper()
	want, wantE := merged(base, x, y, nx, ny)
	got, e := merge.Docs(base, x, y, nx, ny)
	if !slices.Equal(got, want) || e != wantE {
		t.Errorf("P14.1: Docs(%s, %s, %s, %d, %d) = %s, %d, want %s, %d", show(base), show(x), show(y), nx, ny, show(got), e, show(want), wantE)
	}
	if e == api.OK && doc.Check(got) != api.OK {
		t.Errorf("P14.1: Docs(%s, %s, %s, %d, %d) = %s, which may not be", show(base), show(x), show(y), nx, ny, show(got))
	}
	other, f := merge.Docs(base, y, x, ny, nx)
	if nx != ny && (!slices.Equal(got, other) || e != f) {
		t.Errorf("P14.3: Docs(%s, %s, %s, %d, %d) = %s, %d, changed round %s, %d", show(base), show(x), show(y), nx, ny, show(got), e, show(other), f)
	}
	return got, e
}

// holdBase holds that with base as the other side a document that came of base stays as it is.
func holdBase(t *testing.T, base []api.Run, x []api.Run, nx int, ny int) {
	t.Helper()
	if got, e := merge.Docs(base, x, base, nx, ny); !slices.Equal(got, x) || e != api.OK {
		t.Errorf("P14.3: Docs(%s, %s, base, %d, %d) = %s, %d", show(base), show(x), nx, ny, show(got), e)
	}
	if got, e := merge.Docs(base, base, x, nx, ny); !slices.Equal(got, x) || e != api.OK {
		t.Errorf("P14.3: Docs(%s, base, %s, %d, %d) = %s, %d", show(base), show(x), nx, ny, show(got), e)
	}
}

// isNormal is chapter 9's word: what stands between two keeps, ahead of the first and behind the last one.
func isNormal(d []api.Op) bool {
	between := ""
	for i, op := range append(slices.Clone(d), keep(1)) {
		switch op.Kind {
		case api.OpInsert:
			between += "i"
		case api.OpDelete:
			between += "d"
		default:
			if !slices.Contains([]string{"i", "d", "id"}, between) && (between != "" || i > 0 && i < len(d)) {
				return false
			}
			between = ""
		}
	}
	return true
}

// keeps are the places that a delta keeps.
func keeps(d []api.Op) []int {
	var places []int
	at := 0
	for _, op := range d {
		for range op.N {
			if op.Kind == api.OpKeep {
				places = append(places, at)
			}
			at++
		}
	}
	return places
}

// holdDelta holds Delta against the chapter's words.
func holdDelta(t *testing.T, from []api.Run, to []api.Run) {
	t.Helper()
	d, e := merge.Delta(from, to)
	p, q := unitsOf(from), unitsOf(to)
	want := api.OK
	switch {
	case doc.Check(from) != api.OK || doc.Check(to) != api.OK:
		want = api.ErrDocForm
	case unlike(p, q) || turned(p, q):
		want = api.ErrMergeForm
	}
	if e != want || e != api.OK && len(d) > 0 {
		t.Errorf("P14.2: Delta(%s, %s) = %s, %d, want %d", show(from), show(to), show(d), e, want)
		return
	}
	if e != api.OK {
		return
	}
	var both []int
	for i, u := range p {
		if has(q, u) {
			both = append(both, i)
		}
	}
	s, f := delta.Apply(doc.Text(from), d)
	if s != doc.Text(to) || f != api.OK {
		t.Errorf("P14.2: Delta(%s, %s) = %s: it gives %.40q, %d", show(from), show(to), show(d), s, f)
	}
	if !slices.Equal(keeps(d), both) {
		t.Errorf("P14.2: Delta(%s, %s) = %s: it does not keep what both have", show(from), show(to), show(d))
	}
	if !isNormal(d) {
		t.Errorf("P14.2: Delta(%s, %s) = %s: it is not normal", show(from), show(to), show(d))
	}
}
