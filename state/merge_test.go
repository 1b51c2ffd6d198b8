package state_test

import (
	"slices"
	"strings"
	"testing"

	"oxbow/api"
	"oxbow/delta"
	"oxbow/doc"
	"oxbow/state"
)

func TestMerge(t *testing.T) {
	p := fresh().after(t, create("a"), load("a", "abc"), fork("b", 2), load("a", "axc"), load("b", "abcd"))
	behind := p.after(t, mix("a", "b"))
	want := plain(p.s)
	want.NextCommit = 6
	want.Commits = append(want.Commits, api.Commit{Num: 5, Parents: []int{3, 4}, Delta: ops(keep(3), ins("d")), Other: ops(keep(1), ins("x"), gone(1), keep(2))})
	want.Branches[0].Log = []int{1, 2, 3, 5}
	if !same(behind.s, want) {
		t.Errorf("P19.3: %s, want %s", show(behind.s), show(want))
	}
	behind.holdAll(t)
	if q := behind.answers(t, log("a"), 5, api.OK); !slices.Equal(q.Log, []int{1, 2, 3, 4, 5}) {
		t.Errorf("P19.3: %s", show(q))
	}
	// b has nothing new for a any more; a has something for b.
	if s, q, e := state.Do(behind.s, mix("a", "b")); !same(s, behind.s) || !sameReply(q, api.Reply{Kind: api.ReqMerge, Num: 5}) || e != api.OK {
		t.Errorf("P19.3: %s, %s, %d", show(s), show(q), e)
	}
	behind.answers(t, mix("b", "a"), 6, api.OK)
	both := behind.after(t, mix("b", "a"))
	if c := both.s.Commits[5]; !slices.Equal(c.Parents, []int{4, 5}) || !slices.Equal(c.Delta, ops(keep(1), ins("x"), gone(1), keep(2))) || !slices.Equal(c.Other, ops(keep(4))) {
		t.Errorf("P19.3: %s", show(c))
	}
	both.reads(t, "b", "axcd")
	both.answers(t, mix("b", "a"), 6, api.OK)
	both.answers(t, mix("a", "b"), 7, api.OK)
	both.holdAll(t)
}

func TestMergeErrors(t *testing.T) {
	p := some(t)
	for _, other := range []string{"", "A", "abcdefghijklm", "\xff"} {
		p.answers(t, mix("a", other), 0, api.ErrStateName)
		p.answers(t, mix("f", other), 0, api.ErrStateNone)
		p.answers(t, mix("F", other), 0, api.ErrStateName)
	}
	p.answers(t, mix("a", "f"), 0, api.ErrStateNone)
	p.answers(t, mix("f", "a"), 0, api.ErrStateNone)
	p.answers(t, mix("f", "f"), 0, api.ErrStateNone)
	for _, name := range []string{"a", "b", "d", "e"} {
		p.answers(t, mix(name, "c"), 0, api.ErrMergeBase)
		p.answers(t, mix("c", name), 0, api.ErrMergeBase)
	}
}

// TestMergeOfWhatIsAbove: a branch with itself, with one at the same tip, with one that is behind.
func TestMergeOfWhatIsAbove(t *testing.T) {
	p := some(t)
	for _, name := range []string{"a", "b", "c", "d", "e"} {
		last := p.answers(t, tip(name), p.k.tipOf(name), api.OK).Num
		p.answers(t, mix(name, name), last, api.OK)
		q := p.after(t, mix(name, name))
		if !same(q.s, p.s) {
			t.Errorf("P19.3: merged with itself %s is %s", name, show(q.s))
		}
	}
	for _, two := range [][2]string{{"a", "d"}, {"b", "e"}} {
		p.answers(t, mix(two[0], two[1]), p.k.tipOf(two[0]), api.OK)
		p.answers(t, mix(two[1], two[0]), p.k.tipOf(two[0]), api.OK)
	}
	q := p.after(t, fork("old", 2))
	q.answers(t, mix("a", "old"), 7, api.OK)
	// The other way round there is a commit, with what the other one has.
	q.answers(t, mix("old", "a"), 8, api.OK)
	q = q.after(t, mix("old", "a"))
	if c := q.s.Commits[7]; !slices.Equal(c.Parents, []int{2, 7}) || !slices.Equal(c.Other, ops(keep(5))) {
		t.Errorf("P19.3: %s", show(c))
	}
	q.reads(t, "old", "1axc2")
	q.answers(t, mix("a", "old"), 9, api.OK)
	q.answers(t, mix("b", "old"), 9, api.OK)
	q.holdAll(t)
}

// crosswise has a and b merged with one another, each as it was ahead of that.
func crosswise(t *testing.T) pair {
	t.Helper()
	p := fresh().after(t, create("a"), load("a", "m"), fork("b", 2), load("a", "xm"), load("b", "my"))
	return p.after(t, fork("c", 3), mix("a", "b"), mix("b", "c"))
}

func TestMergeOfMany(t *testing.T) {
	p := crosswise(t)
	p.reads(t, "a", "xmy")
	p.reads(t, "b", "xmy")
	p.answers(t, mix("a", "b"), 0, api.ErrMergeMany)
	p.answers(t, mix("b", "a"), 0, api.ErrMergeMany)
	// c is above both, so that there is but one, and nothing to do.
	p.answers(t, mix("a", "c"), 5, api.OK)
	p.answers(t, mix("b", "c"), 6, api.OK)
	// What is behind one of both has the same two in common with the other one.
	q := p.after(t, load("a", "xmyz"), fork("d", 5), fork("e", 6), load("e", "e"))
	q.answers(t, mix("a", "e"), 0, api.ErrMergeMany)
	q.answers(t, mix("d", "e"), 0, api.ErrMergeMany)
	q.answers(t, mix("a", "d"), 7, api.OK)
	q.answers(t, mix("d", "a"), 9, api.OK)
	// Full, it is the same.
	grown(t, q, "c", 301).answers(t, mix("a", "e"), 0, api.ErrMergeMany)
	grown(t, q, "c", 301).answers(t, mix("d", "a"), 0, api.ErrStateFull)
}

func TestMergeThatIsTooLong(t *testing.T) {
	x, y := strings.Repeat("x", 499), strings.Repeat("é", 500)
	p := fresh().after(t, create("a"), load("a", "m"), fork("b", 2), load("a", x+"m"), load("b", "m"+y))
	p.after(t, mix("a", "b")).reads(t, "a", x+"m"+y)
	p.after(t, mix("b", "a")).reads(t, "b", x+"m"+y)
	long := p.after(t, edit("b", ins("z"), keep(501)))
	filled := grown(t, long.after(t, create("c")), "c", 301)
	for _, r := range []api.Request{mix("a", "b"), mix("b", "a")} {
		long.answers(t, r, 0, api.ErrStateTooLong)
		filled.answers(t, r, 0, api.ErrStateTooLong)
	}
	// What one of both deletes makes room.
	long.after(t, edit("a", keep(499), gone(1)), mix("a", "b")).reads(t, "a", x+"z"+y)
}

// TestMergeOfMerges: documents of merges whose parents are merges, with clients' edits in them.
func TestMergeOfMerges(t *testing.T) {
	p := fresh().after(t, create("a"), load("a", "abcdef"), fork("b", 2), fork("c", 2))
	p = p.behindEdits(t, sent(1, 1, 1, 1, ins("1"), keep(6)), sent(2, 1, 2, 0, keep(6), ins("2")), sent(3, 1, 3, 0, keep(2), gone(2), ins("3"), keep(2)))
	p = p.after(t, mix("a", "b"), mix("b", "c"))
	p = p.behindEdits(t, sent(1, 2, 1, 2, keep(7), ins("4")), sent(2, 2, 2, 1, gone(1), keep(6)))
	p.holdAll(t)
	p.reads(t, "a", "1abcdef24")
	p.reads(t, "b", "b3ef2")
	p.answers(t, mix("a", "b"), 10, api.OK)
	q, r := p.after(t, mix("a", "b")), p.after(t, mix("b", "a"))
	q.reads(t, "a", "1b3ef24")
	r.reads(t, "b", "1b3ef24")
	q.holdAll(t)
	r.holdAll(t)
	q.after(t, mix("c", "a")).reads(t, "c", "1b3ef24")
}

// eitherWay holds both merges of two branches against one another (P3, P19.6).
func (p pair) eitherWay(t *testing.T, x string, y string) {
	t.Helper()
	one, _, e := state.Do(p.s, mix(x, y))
	other, _, f := state.Do(p.s, mix(y, x))
	if e != f {
		// One may be full where the other one has nothing to do.
		idle := e == api.ErrStateFull && f == api.OK && same(other, p.s) || f == api.ErrStateFull && e == api.OK && same(one, p.s)
		if !idle {
			t.Errorf("P19.6: %s and %s merged: %d, the other way round %d", x, y, e, f)
		}
		return
	}
	if e != api.OK {
		return
	}
	_, of, _ := state.Do(one, blame(x))
	_, with, _ := state.Do(other, blame(y))
	if !slices.Equal(of.Runs, with.Runs) {
		t.Errorf("P19.6: %s and %s merged: %s, the other way round %s", x, y, show(of.Runs), show(with.Runs))
	}
}

// holdTexts holds each commit's text against what its Deltas make of its parents' (P19.6).
func (p pair) holdTexts(t *testing.T) {
	t.Helper()
	texts := map[int]string{}
	for _, c := range p.s.Commits {
		l, e := state.Doc(p.s, c.Num)
		if e != api.OK || doc.Check(l) != api.OK {
			t.Errorf("P19.2: Doc(%d): %s, %d", c.Num, show(l), e)
		}
		texts[c.Num] = doc.Text(l)
		for i, parent := range c.Parents {
			d := [][]api.Op{c.Delta, c.Other}[i]
			if s, e := delta.Apply(texts[parent], d); s != texts[c.Num] || e != api.OK {
				t.Errorf("P19.6: the commit %d makes of its parent %d %s, %d, want %s", c.Num, parent, show(s), e, show(texts[c.Num]))
			}
		}
	}
}
