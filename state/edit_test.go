package state_test

import (
	"math"
	"slices"
	"strings"
	"testing"

	"oxbow/api"
	"oxbow/state"
)

func TestEdit(t *testing.T) {
	p := fresh().after(t, create("a"), load("a", "abc"), edit("a", keep(1), ins("2"), keep(2)))
	behind := p.behindEdits(t, sent(4, 1, 1, 1, keep(1), ins("1"), keep(2)))
	want := plain(p.s)
	want.NextCommit = 5
	want.Commits = append(want.Commits, api.Commit{Num: 4, Parents: []int{3}, Delta: ops(keep(2), ins("1"), keep(2)), Client: 4, Seq: 1})
	want.Branches[0].Log = []int{1, 2, 3, 4}
	want.Clients = []api.Client{{Client: 4, Branch: 1, Seq: 1}}
	if !same(behind.s, want) {
		t.Errorf("P19.4: %s, want %s", show(behind.s), show(want))
	}
	behind.reads(t, "a", "a21bc")
	behind.holdAll(t)
	// Clients stand rising, whoever comes first.
	all := behind.behindEdits(t, sent(8, 1, 1, 3, keep(5)), sent(1, 1, 1, 3, keep(5)), sent(4, 2, 1, 1, gone(3)), sent(5, 1, 1, 6, keep(2)))
	if !slices.Equal(all.s.Clients, []api.Client{{Client: 1, Branch: 1, Seq: 1}, {Client: 4, Branch: 1, Seq: 2}, {Client: 5, Branch: 1, Seq: 1}, {Client: 8, Branch: 1, Seq: 1}}) {
		t.Errorf("P19.4: %s", show(all.s.Clients))
	}
	all.reads(t, "a", "21")
	all.holdAll(t)
}

func TestEditOfWrongMessages(t *testing.T) {
	p := some(t)
	for _, kind := range []int{math.MinInt, -1, 0, api.MsgPull, api.MsgNext, 4, math.MaxInt} {
		m := sent(3, 3, 1, 4, keep(5))
		m.Kind = kind
		p.takes(t, m, api.ErrArg)
		m.Branch = 99
		p.takes(t, m, api.ErrArg)
	}
	for _, client := range []int{math.MinInt, -1, 0, 9, 10, math.MaxInt} {
		p.takes(t, sent(client, 1, 1, 4, keep(5)), api.ErrArg)
		p.takes(t, sent(client, 1, 99, 4, keep(5)), api.ErrArg)
	}
	for client := 1; client <= 8; client++ {
		seq := 1
		if client == 3 {
			seq = 3
		}
		p.takes(t, sent(client, seq, 1, 4, keep(5)), api.OK)
	}
	for _, branch := range []int{math.MinInt, -1, 0, 4, 7, 99, math.MaxInt} {
		p.takes(t, sent(3, 3, branch, 4, keep(5)), api.ErrStateNone)
		p.takes(t, sent(3, 0, branch, -1, keep(0)), api.ErrStateNone)
	}
	// Who is no field of this kind.
	m := sent(3, 3, 1, 4, keep(5))
	m.Who = 7
	p.takes(t, m, api.OK)
}

func TestEditOnAnotherBranch(t *testing.T) {
	p := some(t)
	for _, branch := range []int{2, 3, 5, 6} {
		p.takes(t, sent(3, 3, branch, 0, keep(3)), api.ErrStateClient)
		p.takes(t, sent(3, 0, branch, 0, keep(3)), api.ErrStateClient)
		p.takes(t, sent(3, 2, branch, -1, keep(0)), api.ErrStateClient)
	}
	p.takes(t, sent(2, 1, 2, 0, keep(3)), api.OK)
	q := p.behindEdits(t, sent(2, 1, 2, 0, keep(3)))
	q.takes(t, sent(2, 2, 1, 0), api.ErrStateClient)
	q.takes(t, sent(2, 2, 2, 0, keep(3)), api.OK)
}

func TestEditBySeq(t *testing.T) {
	p := some(t)
	for _, seq := range []int{math.MinInt, -1, 0, 1, 2} {
		p.takes(t, sent(3, seq, 1, 4, keep(5)), api.ErrStateOld)
		p.takes(t, sent(3, seq, 1, -1, keep(0)), api.ErrStateOld)
	}
	p.takes(t, sent(3, 3, 1, 4, keep(5)), api.OK)
	for _, seq := range []int{4, 5, 100000, math.MaxInt} {
		p.takes(t, sent(3, seq, 1, 4, keep(5)), api.ErrStateGap)
		p.takes(t, sent(3, seq, 1, -1, keep(0)), api.ErrStateGap)
	}
	// Of one that is not known yet.
	for _, seq := range []int{math.MinInt, -1, 0} {
		p.takes(t, sent(7, seq, 1, 4, keep(5)), api.ErrStateOld)
	}
	p.takes(t, sent(7, 1, 1, 4, keep(5)), api.OK)
	for _, seq := range []int{2, 3, math.MaxInt} {
		p.takes(t, sent(7, seq, 1, 4, keep(5)), api.ErrStateGap)
	}
}

func TestEditByRev(t *testing.T) {
	p := some(t)
	lengths := []int{0, 3, 3, 4, 5}
	for rev, n := range lengths {
		for base := range 7 {
			want := api.ErrDeltaLength
			if base == n {
				want = api.OK
			}
			var d []api.Op
			if base > 0 {
				d = ops(gone(base))
			}
			p.takes(t, sent(3, 3, 1, rev, d...), want)
		}
	}
	for _, rev := range []int{math.MinInt, -1, 5, 6, math.MaxInt} {
		p.takes(t, sent(3, 3, 1, rev, keep(5)), api.ErrStateRange)
		p.takes(t, sent(3, 3, 1, rev, keep(0)), api.ErrStateRange)
	}
	for _, d := range [][]api.Op{ops(keep(0)), ops(ins("")), ops(ins("\xff")), ops(api.Op{Kind: 4, N: 5}), slices.Repeat(ops(ins("a")), 3001)} {
		p.takes(t, sent(3, 3, 1, 4, d...), api.ErrDeltaForm)
	}
	for _, d := range [][]api.Op{nil, ops(keep(4)), ops(keep(6)), ops(keep(5), ins(strings.Repeat("x", 996))), ops(keep(1000), keep(1))} {
		p.takes(t, sent(3, 3, 1, 4, d...), api.ErrDeltaLength)
	}
	// A branch that was forked begins with the commit that it was forked at.
	p.takes(t, sent(1, 1, 5, 0, keep(5)), api.OK)
	p.takes(t, sent(1, 1, 5, 1, keep(5)), api.ErrStateRange)
}

// TestEditOverOthers: what is put in comes behind what others have put in there, over one commit or several, merges among them.
func TestEditOverOthers(t *testing.T) {
	p := fresh().after(t, create("a"), load("a", "abc"), fork("b", 2))
	p = p.after(t, edit("a", keep(1), ins("2"), keep(2)), edit("a", keep(2), ins("3"), keep(2)), edit("b", gone(1), keep(2), ins("e")), mix("a", "b"), load("a", "23bcez"))
	p.reads(t, "a", "23bcez")
	texts := []string{"", "abc", "a2bc", "a23bc", "23bce", "23bcez"}
	for rev, s := range texts {
		for at := range len(s) + 1 {
			d := ops(ins("!"))
			if at > 0 {
				d = ops(keep(at), ins("!"))
			}
			if at < len(s) {
				d = append(d, keep(len(s)-at))
			}
			p.takes(t, sent(1, 1, 1, rev, d...), api.OK)
		}
	}
	for _, c := range []struct {
		rev  int
		d    []api.Op
		want string
	}{
		{0, ops(ins("!")), "23bcez!"},
		{1, ops(keep(1), ins("!"), keep(2)), "23!bcez"},
		{1, ops(gone(3)), "23ez"},
		{2, ops(keep(1), gone(1), keep(2)), "3bcez"},
		{3, ops(keep(5), ins("!")), "23bcez!"},
		{3, ops(gone(1), keep(4)), "23bcez"},
		{4, ops(ins("!"), keep(5)), "!23bcez"},
		{5, ops(keep(6)), "23bcez"},
	} {
		q := p.behindEdits(t, sent(1, 1, 1, c.rev, c.d...))
		q.reads(t, "a", c.want)
		q.holdTexts(t)
	}
}

// TestEditThatIsNotNormal: with nothing behind its revision a Delta is not transformed, so it stays as it is.
func TestEditThatIsNotNormal(t *testing.T) {
	d := ops(gone(1), ins("x"), ins("y"), gone(1), keep(1), keep(2))
	p := fresh().after(t, create("a"), load("a", "abcde"))
	last := p.behindEdits(t, sent(1, 1, 1, 1, d...))
	if c := last.s.Commits[2]; !slices.Equal(c.Delta, d) {
		t.Errorf("P19.4: %s", show(c))
	}
	last.reads(t, "a", "xycde")
	last.holdAll(t)
	over := p.after(t, load("a", "abcdef")).behindEdits(t, sent(1, 1, 1, 1, d...))
	if c := over.s.Commits[3]; !slices.Equal(c.Delta, ops(ins("xy"), gone(2), keep(4))) {
		t.Errorf("P19.4: %s", show(c))
	}
	// Others are led over it as over its Normal.
	over = last.behindEdits(t, sent(2, 1, 1, 1, keep(1), ins("z"), keep(4)))
	over.reads(t, "a", "xyzcde")
	over.holdAll(t)
}

func TestEditThatIsTooLong(t *testing.T) {
	s := strings.Repeat("x", 999)
	p := fresh().after(t, create("a"), load("a", s))
	one := sent(1, 1, 1, 1, ins("1"), keep(999))
	p.takes(t, one, api.OK)
	up := p.after(t, edit("a", ins("2"), keep(999)))
	up.takes(t, one, api.ErrStateTooLong)
	up.takes(t, sent(1, 1, 1, 1, ins("1"), gone(1), keep(998)), api.OK)
	// On the way it is too long, though there would be room at the end.
	down := up.after(t, edit("a", gone(500), keep(500)))
	down.takes(t, one, api.ErrStateTooLong)
	down.takes(t, sent(1, 1, 1, 2, ins("1"), gone(1), keep(999)), api.OK)
	first := p.after(t, edit("a", gone(1), keep(998)), edit("a", ins("2"), keep(998)))
	first.takes(t, one, api.OK)
	first.behindEdits(t, one).reads(t, "a", "21"+s[:998])
	// Too long comes ahead of full, and behind all others.
	p = p.after(t, edit("a", ins("2"), keep(999)), create("c"))
	filled := grown(t, p, "c", 301)
	filled.takes(t, one, api.ErrStateTooLong)
	filled.takes(t, sent(1, 1, 1, 2, keep(1000)), api.ErrStateFull)
	filled.takes(t, sent(1, 1, 1, 1, ins("1"), keep(998)), api.ErrDeltaLength)
}

// TestEditsOnce: an edit that is said again is not done again (P4), DOC.md's examples 6 and 8.
func TestEditsOnce(t *testing.T) {
	p := fresh().after(t, create("a"), load("a", "abc"))
	m := sent(1, 1, 1, 1, keep(1), ins("1"), keep(2))
	p = p.after(t, edit("a", keep(1), ins("2"), keep(2))).behindEdits(t, m)
	p.reads(t, "a", "a21bc")
	p.takes(t, m, api.ErrStateOld)
	next := sent(1, 2, 1, 3, keep(5), ins("!"))
	p.takes(t, sent(1, 3, 1, 3, keep(5)), api.ErrStateGap)
	p = p.behindEdits(t, next)
	p.takes(t, m, api.ErrStateOld)
	p.takes(t, next, api.ErrStateOld)
	p.reads(t, "a", "a21bc!")
}

func TestRevs(t *testing.T) {
	p := some(t)
	want := []api.Rev{{Rev: 1, Delta: ops(ins("abc"))}, {Rev: 2, Delta: ops(keep(1), ins("x"), gone(1), keep(1))}, {Rev: 3, Delta: ops(ins("1"), keep(3)), Client: 3, Seq: 1}, {Rev: 4, Delta: ops(keep(4), ins("2")), Client: 3, Seq: 2}}
	for rev := range 5 {
		if l, e := state.Revs(p.s, 1, rev); !sameRevs(l, want[rev:]) || e != api.OK {
			t.Errorf("P19.5: Revs(1, %d): %s, %d, want %s", rev, show(l), e, show(want[rev:]))
		}
	}
	refused := func(branch int, rev int, want api.Errno) {
		t.Helper()
		if l, e := state.Revs(p.s, branch, rev); len(l) != 0 || e != want {
			t.Errorf("P19.5: Revs(%d, %d): %s, %d, want %d", branch, rev, show(l), e, want)
		}
	}
	for _, rev := range []int{math.MinInt, -1, 5, 6, math.MaxInt} {
		refused(1, rev, api.ErrStateRange)
	}
	refused(6, 1, api.ErrStateRange)
	refused(6, -1, api.ErrStateRange)
	for _, branch := range []int{math.MinInt, -1, 0, 4, 7, math.MaxInt} {
		for _, rev := range []int{-1, 0, 1, 99} {
			refused(branch, rev, api.ErrStateNone)
		}
	}
	// A merge tells the delta from the branch's own side.
	q := p.after(t, mix("b", "a"))
	if l, e := state.Revs(q.s, 2, 1); !sameRevs(l, []api.Rev{{Rev: 2, Delta: q.s.Commits[7].Delta}}) || e != api.OK {
		t.Errorf("P19.5: %s, %d", show(l), e)
	}
}
