package state_test

import (
	"fmt"
	"math"
	"slices"
	"strings"
	"testing"

	"oxbow/api"
	"oxbow/doc"
	"oxbow/state"
)

func TestNew(t *testing.T) {
	if s := state.New(); !same(s, api.State{NextCommit: 1, NextBranch: 1}) {
		t.Errorf("P19.1: %s", show(s))
	}
	fresh().holdAll(t)
}

// some is a state with a bit of all: a and b come of one, c was created apart, d stands at a's tip, e at b's; f is gone; the client 3 has edited a twice.
func some(t *testing.T) pair {
	t.Helper()
	p := fresh().after(t, create("a"), load("a", "abc"), fork("b", 2), load("a", "axc"), edit("b", keep(3), ins("d")), create("c"), fork("f", 1), remove("f"))
	p = p.behindEdits(t, sent(3, 1, 1, 1, ins("1"), keep(3)), sent(3, 2, 1, 3, keep(4), ins("2")))
	return p.after(t, fork("d", 7), fork("e", 4))
}

// full is a state whose next commit would be the number next, as some is, with edits of c between.
func full(t *testing.T, next int) pair {
	t.Helper()
	p := some(t)
	return grown(t, p, "c", next)
}

// grown has edits on a branch till the next commit would be the number next. The model alone has seen that each of them is right, so only the state's end is held.
func grown(t *testing.T, p pair, name string, next int) pair {
	t.Helper()
	for i := p.s.NextCommit; i < next; i++ {
		r := load(name, fmt.Sprint(i%7))
		s, _, e := state.Do(p.s, r)
		k, _, want := p.k.do(r)
		if e != api.OK || want != api.OK {
			t.Fatalf("P19.3: Do(%s): %d, %d", show(r), e, want)
		}
		p = pair{s, k}
	}
	if !same(p.s, p.k.State) || p.s.NextCommit != next {
		t.Fatalf("P19.3: %s, want %s", show(p.s), show(p.k.State))
	}
	return p
}

// crowded has branches founded at a commit till there are so many.
func crowded(t *testing.T, p pair, many int) pair {
	t.Helper()
	for i := len(p.s.Branches); i < many; i++ {
		p = p.after(t, fork(fmt.Sprintf("x%d", i), 1))
	}
	return p
}

func TestKinds(t *testing.T) {
	p := some(t)
	for _, kind := range []int{math.MinInt, -1, 0, 12, 13, 1 << 32, math.MaxInt} {
		for _, name := range []string{"a", "nobody", "", "A"} {
			p.answers(t, api.Request{Kind: kind, Name: name, Other: "b", Num: 1, Text: "x", Delta: ops(keep(3))}, 0, api.ErrArg)
			fresh().answers(t, api.Request{Kind: kind, Name: name}, 0, api.ErrArg)
		}
	}
	nums := []int{0, 0, 8, 8, 0, 8, 1, 1, 7, 7, 7, 7}
	errs := []api.Errno{api.ErrArg, api.ErrStateTwice, api.OK, api.OK, api.ErrStateTwice, api.OK, api.OK, api.OK, api.OK, api.OK, api.OK, api.OK}
	for kind := 1; kind <= 11; kind++ {
		r := api.Request{Kind: kind, Name: "a", Other: "b", Text: "x", Delta: ops(gone(5))}
		if kind == api.ReqRename {
			r.Other = "z"
		}
		if q := p.answers(t, r, nums[kind], errs[kind]); errs[kind] == api.OK && q.Kind != kind {
			t.Errorf("P19.3: Do(%s): Kind %d", show(r), q.Kind)
		}
	}
}

// TestFieldsOfOtherKinds: what a request has no use for does not show.
func TestFieldsOfOtherKinds(t *testing.T) {
	p := some(t)
	noise := api.Request{Other: "\xff no name", Num: -7, Text: "\xff", Delta: ops(api.Op{Kind: 9})}
	for _, r := range []api.Request{create("z"), load("a", "q"), edit("a", gone(5)), fork("z", 4), mix("a", "b"), rename("a", "z"), remove("a"), read("a"), blame("a"), log("a"), tip("a")} {
		full := noise
		full.Kind, full.Name = r.Kind, r.Name
		switch r.Kind {
		case api.ReqImport:
			full.Text = r.Text
		case api.ReqEdit:
			full.Delta = r.Delta
		case api.ReqFork:
			full.Num = r.Num
		case api.ReqMerge, api.ReqRename:
			full.Other = r.Other
		}
		s, q, e := state.Do(p.s, r)
		noisy, noisyQ, f := state.Do(p.s, full)
		if e != api.OK || f != api.OK || !same(s, noisy) || !sameReply(q, noisyQ) {
			t.Errorf("P19.3: Do(%s): %d; Do(%s): %d", show(r), e, show(full), f)
		}
	}
}

func TestNames(t *testing.T) {
	p := some(t)
	try := func(name string, is bool) {
		t.Helper()
		want, none, founded, renamed := api.ErrStateName, api.ErrStateName, 0, 0
		if is {
			want, none, founded, renamed = api.OK, api.ErrStateNone, 7, 1
		}
		for kind := 1; kind <= 11; kind++ {
			r := api.Request{Kind: kind, Name: name, Other: "b", Num: 1}
			if kind == api.ReqCreate || kind == api.ReqFork {
				p.answers(t, r, founded, want)
			} else {
				p.answers(t, r, 0, none)
			}
		}
		p.answers(t, mix("a", name), 0, none)
		p.answers(t, rename("a", name), renamed, want)
	}
	for c := range 256 {
		is := 'a' <= c && c <= 'z' || '0' <= c && c <= '9'
		if c < 'a' || c > 'f' { // those names are there
			try(string([]byte{byte(c)}), is)
		}
		for _, at := range []int{0, 5, 11} {
			name := []byte("abcdefghijkl")
			name[at] = byte(c)
			try(string(name), is)
		}
	}
	for _, name := range []string{"", "é", "a\x00", "ä", "a b", "A", "Z", "`", "{", "/", ":", "a/", "9:", "abcdefghijklm", "0123456789012", strings.Repeat("a", 1000), "abcdefghijkl\xff", "\xffabcdefghijk"} {
		try(name, false)
	}
	for _, name := range []string{"aa", "zz", "az09", "012345678901", "abcdefghijkl", "zzzzzzzzzzzz", "000000000000"} {
		try(name, true)
	}
}

func TestCreate(t *testing.T) {
	p := fresh()
	p.answers(t, create("a"), 1, api.OK)
	p = p.after(t, create("a"))
	want := api.State{NextCommit: 2, NextBranch: 2, Commits: []api.Commit{{Num: 1}}, Branches: []api.Branch{{Id: 1, Name: "a", Log: []int{1}}}}
	if !same(p.s, want) {
		t.Errorf("P19.3: %s", show(p.s))
	}
	p.answers(t, create("a"), 0, api.ErrStateTwice)
	p.answers(t, create("b"), 2, api.OK)
	p.reads(t, "a", "")
	p.holdAll(t)
}

func TestCreateAtTheEnds(t *testing.T) {
	p := crowded(t, some(t), 19)
	p.answers(t, create("a"), 0, api.ErrStateTwice)
	p.answers(t, create("new"), p.s.NextBranch, api.OK)
	p = p.after(t, create("new"))
	p.answers(t, create("a"), 0, api.ErrStateTwice)
	p.answers(t, create("newer"), 0, api.ErrStateFull)
	p.answers(t, fork("newer", 1), 0, api.ErrStateFull)
	// With one that went there is room again, and its Id is never given again.
	p = p.after(t, remove("new"), create("newer"))
	if b := p.s.Branches[19]; b.Id != p.s.NextBranch-1 || b.Name != "newer" || b.Id != 22 {
		t.Errorf("P19.3: %s", show(b))
	}
	p.answers(t, create("newest"), 0, api.ErrStateFull)
	for _, next := range []int{299, 300} {
		p := full(t, next)
		p.answers(t, create("a"), 0, api.ErrStateTwice)
		p.answers(t, create("new"), 7, api.OK)
	}
	p = full(t, 300).after(t, create("last"))
	p.answers(t, tip("last"), 300, api.OK)
	p.answers(t, create("a"), 0, api.ErrStateTwice)
	p.answers(t, create("new"), 0, api.ErrStateFull)
	p.answers(t, fork("new", 300), 8, api.OK)
}

func TestImport(t *testing.T) {
	p := fresh().after(t, create("a"))
	p.answers(t, load("a", "abc"), 2, api.OK)
	p = p.after(t, load("a", "abc"), load("a", "axc"), load("a", "axc"), load("a", ""))
	want := []api.Commit{
		{Num: 1},
		{Num: 2, Parents: []int{1}, Delta: ops(ins("abc"))},
		{Num: 3, Parents: []int{2}, Delta: ops(keep(1), ins("x"), gone(1), keep(1))},
		{Num: 4, Parents: []int{3}, Delta: ops(keep(3))},
		{Num: 5, Parents: []int{4}, Delta: ops(gone(3))},
	}
	if !same(p.s, api.State{NextCommit: 6, NextBranch: 2, Commits: want, Branches: []api.Branch{{Id: 1, Name: "a", Log: []int{1, 2, 3, 4, 5}}}}) {
		t.Errorf("P19.3: %s", show(p.s))
	}
	p.answers(t, load("b", "abc"), 0, api.ErrStateNone)
	p.holdAll(t)
}

func TestImportOfTexts(t *testing.T) {
	p := fresh().after(t, create("a"), load("a", "abc"))
	filled := grown(t, fresh().after(t, create("a")), "a", 301)
	for _, s := range []string{"\xff", "a\xff", "\xffa", "\xc0\x80", "\xed\xa0\x80", "\xf4\x90\x80\x80", "\x80", "é"[:1], strings.Repeat("a", 1000) + "\xff", strings.Repeat("a", 1001) + "\xff", strings.Repeat("\xff", 2000)} {
		p.answers(t, load("a", s), 0, api.ErrText)
		filled.answers(t, load("a", s), 0, api.ErrText)
		p.answers(t, load("b", s), 0, api.ErrStateNone)
	}
	for _, c := range []string{"a", "\x00", "é", "€", "😀", "\U0010ffff"} {
		for _, n := range []int{0, 1, 999, 1000} {
			s := strings.Repeat(c, n)
			p.answers(t, load("a", s), 3, api.OK)
			filled.answers(t, load("a", s), 0, api.ErrStateFull)
			p.after(t, load("a", s)).reads(t, "a", s)
		}
		for _, n := range []int{1001, 1002, 4000} {
			p.answers(t, load("a", strings.Repeat(c, n)), 0, api.ErrStateTooLong)
			filled.answers(t, load("a", strings.Repeat(c, n)), 0, api.ErrStateTooLong)
		}
	}
}

// TestFull: the last commits that can be, and the first that can't.
func TestFull(t *testing.T) {
	for _, next := range []int{299, 300, 301} {
		p := full(t, next)
		num, e := next, api.OK
		if next > 300 {
			num, e = 0, api.ErrStateFull
		}
		p.answers(t, load("b", "q"), num, e)
		p.answers(t, edit("b", keep(4)), num, e)
		p.answers(t, mix("a", "b"), num, e)
		p.takes(t, sent(1, 1, 2, 0, keep(3)), e)
		p.takes(t, sent(3, 3, 1, 4, keep(5)), e)
		// One way round there is nothing to do, the other way round there is a commit to be made.
		old := p.after(t, fork("old", 2))
		old.answers(t, mix("a", "old"), 7, api.OK)
		old.answers(t, mix("old", "a"), num, e)
		old.eitherWay(t, "a", "old")
		// Where there is nothing to do, or another error, that is the answer.
		p.answers(t, mix("a", "a"), 7, api.OK)
		p.answers(t, mix("d", "a"), 7, api.OK)
		p.answers(t, mix("a", "c"), 0, api.ErrMergeBase)
		p.answers(t, edit("b", keep(3)), 0, api.ErrDeltaLength)
		p.answers(t, edit("b", keep(0)), 0, api.ErrDeltaForm)
		p.answers(t, fork("z", next-1), 7, api.OK)
		p.answers(t, rename("a", "z"), 1, api.OK)
		p.answers(t, remove("a"), 1, api.OK)
		p.answers(t, blame("a"), 7, api.OK)
		p.reads(t, "a", "1axc2")
	}
	p := full(t, 301)
	for _, b := range p.s.Branches {
		p.answers(t, load(b.Name, ""), 0, api.ErrStateFull)
	}
	if p.s.NextCommit != 301 || len(p.s.Commits) != 300 || p.s.Commits[299].Num != 300 {
		t.Errorf("P19.3: %d commits, the next one %d", len(p.s.Commits), p.s.NextCommit)
	}
}

func TestEditRequest(t *testing.T) {
	p := fresh().after(t, create("a"), load("a", "abc"))
	for _, d := range [][]api.Op{ops(api.Op{}), ops(keep(0)), ops(keep(1001)), ops(ins("")), ops(ins("\xff")), ops(api.Op{Kind: 4, N: 3}), ops(keep(3), api.Op{Kind: 1, N: 1, Text: "x"}), slices.Repeat(ops(ins("a")), 3001)} {
		p.answers(t, edit("a", d...), 0, api.ErrDeltaForm)
		p.answers(t, edit("b", d...), 0, api.ErrStateNone)
	}
	for _, d := range [][]api.Op{nil, ops(keep(2)), ops(keep(4)), ops(ins("x")), ops(keep(1000), ins("x")), ops(gone(1000), gone(3)), ops(keep(3), ins(strings.Repeat("x", 998)))} {
		p.answers(t, edit("a", d...), 0, api.ErrDeltaLength)
		p.answers(t, edit("b", d...), 0, api.ErrStateNone)
	}
	p.after(t, edit("a", keep(3), ins(strings.Repeat("x", 997)))).reads(t, "a", "abc"+strings.Repeat("x", 997))
	p = p.after(t, edit("a", gone(1), ins("x"), gone(1), keep(1)), edit("a", keep(1), keep(1)), edit("a", ins("é"), ins("€"), gone(2)))
	want := [][]api.Op{nil, ops(ins("abc")), ops(ins("x"), gone(2), keep(1)), ops(keep(2)), ops(ins("é€"), gone(2))}
	for i, c := range p.s.Commits {
		if !slices.Equal(c.Delta, want[i]) || c.Client != 0 || c.Seq != 0 || len(c.Other) != 0 {
			t.Errorf("P19.3: %s", show(c))
		}
	}
	p.reads(t, "a", "é€")
	p = p.after(t, load("a", ""), edit("a"))
	p.reads(t, "a", "")
	p.holdAll(t)
}

func TestFork(t *testing.T) {
	p := fresh().after(t, create("a"), load("a", "ab"), load("a", "abc"))
	p.answers(t, fork("b", 2), 2, api.OK)
	for _, num := range []int{math.MinInt, -1, 0, 4, 5, 300, 301, math.MaxInt} {
		p.answers(t, fork("b", num), 0, api.ErrStateNone)
		p.answers(t, fork("a", num), 0, api.ErrStateTwice)
		crowded(t, p, 20).answers(t, fork("b", num), 0, api.ErrStateNone)
	}
	for num := 1; num <= 3; num++ {
		behind := p.after(t, fork("b", num))
		want := plain(p.s)
		want.NextBranch, want.Branches = 3, append(want.Branches, api.Branch{Id: 2, Name: "b", Log: []int{num}})
		if !same(behind.s, want) {
			t.Errorf("P19.3: %s", show(behind.s))
		}
		behind.reads(t, "b", "abc"[:[]int{0, 2, 3}[num-1]])
		behind.after(t, load("b", "z")).reads(t, "a", "abc")
		behind.holdAll(t)
	}
	for _, many := range []int{18, 19, 20} {
		q := crowded(t, p, many)
		if many < 20 {
			q.answers(t, fork("b", 3), many+1, api.OK)
		} else {
			q.answers(t, fork("b", 3), 0, api.ErrStateFull)
		}
		q.answers(t, fork("a", 3), 0, api.ErrStateTwice)
	}
}

func TestRename(t *testing.T) {
	p := some(t)
	p.answers(t, rename("a", "z"), 1, api.OK)
	p.answers(t, rename("e", "z"), 6, api.OK)
	p.answers(t, rename("a", "a"), 0, api.ErrStateTwice)
	p.answers(t, rename("a", "b"), 0, api.ErrStateTwice)
	p.answers(t, rename("f", "b"), 0, api.ErrStateNone)
	p.answers(t, rename("f", "B"), 0, api.ErrStateNone)
	p.answers(t, rename("F", "B"), 0, api.ErrStateName)
	p.answers(t, rename("a", "f"), 1, api.OK)
	behind := p.after(t, rename("a", "z"))
	want := plain(p.s)
	want.Branches[0].Name = "z"
	if !same(behind.s, want) {
		t.Errorf("P19.3: %s", show(behind.s))
	}
	// By its old name it is there no more; by its Id it is.
	for kind := 2; kind <= 11; kind++ {
		if kind != api.ReqFork {
			behind.answers(t, api.Request{Kind: kind, Name: "a", Other: "b", Delta: ops(keep(5))}, 0, api.ErrStateNone)
		}
	}
	behind.answers(t, mix("b", "a"), 0, api.ErrStateNone)
	behind.answers(t, mix("b", "z"), 8, api.OK)
	behind.answers(t, create("a"), 7, api.OK)
	behind.answers(t, rename("b", "a"), 2, api.OK)
	behind.takes(t, sent(3, 3, 1, 4, keep(5)), api.OK)
	behind.reads(t, "z", "1axc2")
	behind.holdAll(t)
}

func TestDelete(t *testing.T) {
	p := some(t)
	p.answers(t, remove("b"), 2, api.OK)
	p.answers(t, remove("f"), 0, api.ErrStateNone)
	p.answers(t, remove("F"), 0, api.ErrStateName)
	behind := p.after(t, remove("a"))
	want := plain(p.s)
	want.Branches = want.Branches[1:]
	if !same(behind.s, want) {
		t.Errorf("P19.3: %s", show(behind.s))
	}
	for kind := 2; kind <= 11; kind++ {
		if kind != api.ReqFork {
			behind.answers(t, api.Request{Kind: kind, Name: "a", Other: "b", Delta: ops(keep(5))}, 0, api.ErrStateNone)
		}
	}
	behind.answers(t, mix("b", "a"), 0, api.ErrStateNone)
	behind.answers(t, rename("b", "a"), 2, api.OK)
	behind.answers(t, create("a"), 7, api.OK)
	behind.takes(t, sent(3, 3, 1, 4, keep(5)), api.ErrStateNone)
	behind.takes(t, sent(3, 1, 2, 0, keep(3)), api.ErrStateClient)
	if _, e := state.Revs(behind.s, 1, 0); e != api.ErrStateNone {
		t.Errorf("P19.5: Revs of a branch that went: %d", e)
	}
	// Its commits are not gone.
	if l, e := state.Doc(behind.s, 7); doc.Text(l) != "1axc2" || e != api.OK {
		t.Errorf("P19.2: %s, %d", show(l), e)
	}
	behind.holdAll(t)
	again := behind.after(t, create("a"))
	again.reads(t, "a", "")
	again.takes(t, sent(3, 3, 7, 0), api.ErrStateClient)
	again.takes(t, sent(1, 1, 7, 0), api.OK)
	none := p.after(t, remove("e"), remove("a"), remove("c"), remove("b"), remove("d"))
	if len(none.s.Branches) != 0 || len(none.s.Commits) != 7 {
		t.Errorf("P19.3: %s", show(none.s))
	}
	none.holdAll(t)
}

func TestReading(t *testing.T) {
	p := some(t)
	q := p.answers(t, read("a"), 7, api.OK)
	if !sameReply(q, api.Reply{Kind: api.ReqRead, Num: 7, Text: "1axc2"}) {
		t.Errorf("P19.3: %s", show(q))
	}
	q = p.answers(t, blame("a"), 7, api.OK)
	if !sameReply(q, api.Reply{Kind: api.ReqBlame, Num: 7, Runs: []api.Run{run(3, 1, 0, "1"), run(0, 2, 0, "a"), run(0, 3, 0, "x"), run(0, 2, 2, "c"), run(3, 2, 0, "2")}}) {
		t.Errorf("P19.3: %s", show(q))
	}
	q = p.answers(t, log("a"), 7, api.OK)
	if !sameReply(q, api.Reply{Kind: api.ReqLog, Num: 7, Log: []int{1, 2, 3, 6, 7}}) {
		t.Errorf("P19.3: %s", show(q))
	}
	q = p.answers(t, tip("a"), 7, api.OK)
	if !sameReply(q, api.Reply{Kind: api.ReqTip, Num: 7}) {
		t.Errorf("P19.3: %s", show(q))
	}
	// A Log goes up beyond the commit that the branch began with.
	if q := p.answers(t, log("e"), 4, api.OK); !slices.Equal(q.Log, []int{1, 2, 4}) {
		t.Errorf("P19.3: %s", show(q))
	}
	for _, name := range []string{"a", "b", "c", "d", "e"} {
		for kind := api.ReqRead; kind <= api.ReqTip; kind++ {
			if s, _, e := state.Do(p.s, api.Request{Kind: kind, Name: name}); !same(s, p.s) || e != api.OK {
				t.Errorf("P19.6: reading has changed the state: %s, %d", show(s), e)
			}
		}
	}
	p.holdAll(t)
}

func TestDoc(t *testing.T) {
	p := some(t)
	for _, num := range []int{math.MinInt, -1, 0, 8, 9, 300, 301, math.MaxInt} {
		if l, e := state.Doc(p.s, num); len(l) != 0 || e != api.ErrStateNone {
			t.Errorf("P19.2: Doc(%d): %s, %d", num, show(l), e)
		}
	}
	want := [][]api.Run{nil, {run(0, 2, 0, "abc")}, {run(0, 2, 0, "a"), run(0, 3, 0, "x"), run(0, 2, 2, "c")}, {run(0, 2, 0, "abc"), run(0, 4, 0, "d")}, nil, {run(3, 1, 0, "1"), run(0, 2, 0, "a"), run(0, 3, 0, "x"), run(0, 2, 2, "c")}}
	for i, w := range want {
		if l, e := state.Doc(p.s, i+1); !slices.Equal(l, w) || e != api.OK {
			t.Errorf("P19.2: Doc(%d): %s, %d, want %s", i+1, show(l), e, show(w))
		}
	}
	if l, e := state.Doc(state.New(), 1); len(l) != 0 || e != api.ErrStateNone {
		t.Errorf("P19.2: Doc(1) of a new state: %s, %d", show(l), e)
	}
}

// TestExamplesOfTheWhole: those of DOC.md that need no more than this layer.
func TestExamplesOfTheWhole(t *testing.T) {
	// 1
	p := fresh().after(t, create("a"), load("a", "abc"))
	p.reads(t, "a", "abc")
	p = p.after(t, load("a", "axc"))
	if d := p.s.Commits[2].Delta; !slices.Equal(d, ops(keep(1), ins("x"), gone(1), keep(1))) {
		t.Errorf("example 1: %s", show(d))
	}
	if q := p.answers(t, blame("a"), 3, api.OK); !slices.Equal(q.Runs, []api.Run{run(0, 2, 0, "a"), run(0, 3, 0, "x"), run(0, 2, 2, "c")}) {
		t.Errorf("example 1: %s", show(q))
	}
	// 2
	p = p.after(t, fork("b", 2), load("b", "abcd"))
	p.answers(t, mix("a", "b"), 5, api.OK)
	p.answers(t, mix("b", "a"), 5, api.OK)
	one, other := p.after(t, mix("a", "b")), p.after(t, mix("b", "a"))
	one.reads(t, "a", "axcd")
	other.reads(t, "b", "axcd")
	if !slices.Equal(one.answers(t, blame("a"), 5, api.OK).Runs, other.answers(t, blame("b"), 5, api.OK).Runs) {
		t.Errorf("example 2: the atoms are not the same")
	}
	// 3
	p = fresh().after(t, create("a"), load("a", "ab"), fork("b", 2), load("a", "aXb"))
	q := p.after(t, load("b", "aYb"))
	q.after(t, mix("a", "b")).reads(t, "a", "aXYb")
	q.after(t, mix("b", "a")).reads(t, "b", "aXYb")
	q = p.after(t, load("b", "aXb"))
	twice := []api.Run{run(0, 2, 0, "a"), run(0, 3, 0, "X"), run(0, 4, 0, "X"), run(0, 2, 1, "b")}
	for _, r := range []api.Request{mix("a", "b"), mix("b", "a")} {
		if q := q.after(t, r).answers(t, blame(r.Name), 5, api.OK); !slices.Equal(q.Runs, twice) {
			t.Errorf("example 3: %s", show(q))
		}
	}
	// 5
	p = fresh().after(t, create("a"), load("a", "abc"))
	p.answers(t, load("a", "\xff"), 0, api.ErrText)
	p.answers(t, load("a", strings.Repeat("a", 1001)), 0, api.ErrStateTooLong)
	p.answers(t, edit("a", keep(2)), 0, api.ErrDeltaLength)
	p.reads(t, "a", "abc")
	// 10, but for the sweep
	p = fresh().after(t, create("a"), load("a", "abc"), fork("b", 2), load("b", "b"), remove("b"))
	p.reads(t, "a", "abc")
	p.holdAll(t)
}
