package gc_test

import (
	"fmt"
	"math/rand"
	"reflect"
	"slices"
	"strings"
	"testing"

	"oxbow/api"
	"oxbow/gc"
	"oxbow/record"
	"oxbow/state"
)

func create(name string) api.Request { return api.Request{Kind: api.ReqCreate, Name: name} }
func load(name string, s string) api.Request {
	return api.Request{Kind: api.ReqImport, Name: name, Text: s}
}
func edit(name string, l ...api.Op) api.Request {
	return api.Request{Kind: api.ReqEdit, Name: name, Delta: l}
}
func fork(name string, num int) api.Request {
	return api.Request{Kind: api.ReqFork, Name: name, Num: num}
}
func mix(name string, other string) api.Request {
	return api.Request{Kind: api.ReqMerge, Name: name, Other: other}
}
func rename(name string, other string) api.Request {
	return api.Request{Kind: api.ReqRename, Name: name, Other: other}
}
func remove(name string) api.Request { return api.Request{Kind: api.ReqDelete, Name: name} }

func sent(client int, seq int, branch int, rev int, l ...api.Op) api.Message {
	return api.Message{Kind: api.MsgEdit, Client: client, Seq: seq, Branch: branch, Rev: rev, Delta: l}
}

// made is the state behind requests and messages that must all end well.
func made(t *testing.T, s api.State, l ...any) api.State {
	t.Helper()
	for _, x := range l {
		var e api.Errno
		switch x := x.(type) {
		case api.Request:
			s, _, e = state.Do(s, x)
		case api.Message:
			s, e = state.Edit(s, x)
		}
		if e != api.OK {
			t.Fatalf("%s: %d", show(x), e)
		}
	}
	return s
}

// A twin is a state that was never swept, and one that was, and was asked the same.
type twin struct{ whole, lean api.State }

// does asks both the same, and is the twin behind it; false: there is none, as it was refused, or is a ReqFork at a commit that went.
func (w twin) does(t *testing.T, x any) (twin, bool) {
	t.Helper()
	var next twin
	var q, wantQ api.Reply
	var e, want api.Errno
	switch x := x.(type) {
	case api.Request:
		next.lean, q, e = state.Do(w.lean, x)
		next.whole, wantQ, want = state.Do(w.whole, x)
		_, was := commitOf(w.whole, x.Num)
		_, is := commitOf(w.lean, x.Num)
		if x.Kind == api.ReqFork && was && !is {
			if want == api.OK {
				want = api.ErrStateNone
			}
			if e != want && (e != api.ErrStateNone || want != api.ErrStateFull) {
				t.Fatalf("P19.3: %s at a commit that went: %d, want %d", show(x), e, want)
			}
			return twin{}, false
		}
	case api.Message:
		next.lean, e = state.Edit(w.lean, x)
		next.whole, want = state.Edit(w.whole, x)
	}
	if e != want || !reflect.DeepEqual(q, wantQ) {
		t.Fatalf("P21.2: %s: behind a Sweep %s, %d, without it %s, %d", show(x), show(q), e, show(wantQ), want)
	}
	if e != api.OK {
		return twin{}, false
	}
	next.hold(t)
	return next, true
}

// hold holds that both have the same but for commits that are needed no more.
func (w twin) hold(t *testing.T) {
	t.Helper()
	a, _ := gc.Sweep(w.lean)
	b, _ := gc.Sweep(w.whole)
	if !same(a, b) {
		t.Fatalf("P21.2: behind a Sweep comes %s, without it %s", show(a), show(b))
	}
}

// holdDocs is P21.3, and the same of revisions.
func (w twin) holdDocs(t *testing.T) {
	t.Helper()
	needed := gc.Needed(w.whole)
	left, _ := gc.Sweep(w.whole)
	for num := -1; num <= w.whole.NextCommit; num++ {
		l, e := state.Doc(left, num)
		wantL, want := state.Doc(w.whole, num)
		if !slices.Contains(needed, num) {
			wantL, want = nil, api.ErrStateNone
		}
		if e != want || !slices.Equal(l, wantL) {
			t.Fatalf("P21.3: Doc of %d: %s, %d, want %s, %d", num, show(l), e, show(wantL), want)
		}
	}
	for id := range w.whole.NextBranch + 1 {
		for rev := -1; rev <= w.whole.NextCommit; rev++ {
			l, e := state.Revs(left, id, rev)
			wantL, want := state.Revs(w.whole, id, rev)
			if e != want || !reflect.DeepEqual(l, wantL) {
				t.Fatalf("P21.2: Revs of %d, %d: %s, %d, want %s, %d", id, rev, show(l), e, show(wantL), want)
			}
		}
	}
}

// A scene is a state that the machine made, and how many of its commits are needed no more.
type scene struct {
	s    api.State
	went int
}

func scenes(t *testing.T) map[string]scene {
	t.Helper()
	// a has the commits 1, 2, 3, 6, and b 2, 4, 5, 7.
	s := made(t, state.New(), create("a"), load("a", "abc"), fork("b", 2), load("a", "axc"), load("b", "abcd"), edit("b", ins("1"), keep(4)),
		sent(3, 1, 1, 1, keep(3), ins("!")), sent(4, 1, 2, 0, keep(3), ins("?")))
	crosswise := made(t, s, fork("c", 6), fork("d", 7), mix("a", "b"), mix("b", "c"))
	return map[string]scene{
		"new":                        {state.New(), 0},
		"nothing to go":              {s, 0},
		"a branch deleted":           {made(t, s, remove("b")), 3},
		"the first branch deleted":   {made(t, s, remove("a")), 2},
		"all deleted":                {made(t, s, remove("a"), remove("b")), 7},
		"one renamed, one deleted":   {made(t, s, rename("a", "z"), remove("b"), rename("z", "b")), 3},
		"a name made anew":           {made(t, s, remove("b"), create("b"), load("b", "new")), 3},
		"forked at another's commit": {made(t, s, fork("c", 4), fork("d", 5), load("d", "d"), remove("b"), remove("d")), 3},
		"forked at a tip":            {made(t, s, fork("c", 6), load("c", "cc"), remove("a"), remove("b")), 3},
		"merged, the other deleted":  {made(t, s, mix("a", "b"), remove("b")), 0},
		"merged, then both deleted":  {made(t, s, fork("c", 3), mix("a", "b"), remove("a"), remove("b")), 5},
		"merged crosswise":           {made(t, crosswise, remove("c"), remove("d")), 0},
		"crosswise, one deleted":     {made(t, crosswise, remove("a"), remove("c")), 1},
		"a client's branch deleted":  {made(t, s, sent(3, 2, 1, 3, keep(4), ins("2")), remove("a"), fork("a", 2)), 3},
	}
}

// all are requests and messages of all kinds: some are right, some are refused.
func all(s api.State) []any {
	names := []string{"a", "b", "c", "new", ""}
	var l []any
	for _, name := range names {
		for kind := range 14 {
			l = append(l, api.Request{Kind: kind, Name: name, Other: "b", Text: "bxd"})
		}
		for num := range s.NextCommit + 1 {
			l = append(l, fork(name, num))
		}
		for _, other := range names {
			l = append(l, mix(name, other), rename(name, other))
		}
		for n := range 8 {
			l = append(l, edit(name, around(n, "new", 0)...))
		}
		l = append(l, load(name, ""), load(name, "xxabcdxx"), load(name, "\xff"))
	}
	for _, client := range []int{1, 3, 4, 9} {
		for branch := range s.NextBranch + 1 {
			for rev := -1; rev < 4; rev++ {
				for _, d := range [][]api.Op{around(0, "new", 0), around(3, "new", 0), around(4, "new", 0), around(3, "new", 1)} {
					l = append(l, sent(client, 1, branch, rev, d...), sent(client, 2, branch, rev, d...))
				}
			}
		}
	}
	return l
}

// around puts a text in between so many code points.
func around(ahead int, s string, behind int) []api.Op {
	var d []api.Op
	if ahead > 0 {
		d = append(d, keep(ahead))
	}
	d = append(d, ins(s))
	if behind > 0 {
		d = append(d, keep(behind))
	}
	return d
}

// TestNoAnswerTurns: each further request and message, and each one of some behind it.
func TestNoAnswerTurns(t *testing.T) {
	for what, x := range scenes(t) {
		t.Run(what, func(t *testing.T) {
			left, went := gc.Sweep(x.s)
			if went != x.went {
				t.Errorf("G2: %d commits went, want %d", went, x.went)
			}
			w := twin{x.s, left}
			w.hold(t)
			w.holdDocs(t)
			tried := 0
			for _, y := range all(x.s) {
				next, ok := w.does(t, y)
				if !ok {
					continue
				}
				next.holdDocs(t)
				for i, z := range all(next.whole) {
					if i%7 == tried%7 {
						next.does(t, z)
					}
				}
				tried++
			}
			if tried < 2 {
				t.Errorf("only %d went well", tried)
			}
		})
	}
}

// TestForkWhereOneWent: such a request alone is answered otherwise, and by ErrStateNone.
func TestForkWhereOneWent(t *testing.T) {
	s := scenes(t)["a branch deleted"].s
	left, went := gc.Sweep(s)
	if went != 3 || !slices.Equal(numsOf(left), []int{1, 2, 3, 6}) {
		t.Fatalf("G2: %d went, %v are left", went, numsOf(left))
	}
	for _, c := range s.Commits {
		_, stays := commitOf(left, c.Num)
		want := api.ErrStateNone
		if stays {
			want = api.OK
		}
		if _, _, e := state.Do(s, fork("new", c.Num)); e != api.OK {
			t.Errorf("P19.3: fork at %d: %d", c.Num, e)
		}
		if _, _, e := state.Do(left, fork("new", c.Num)); e != want {
			t.Errorf("P21.2: fork at %d behind a Sweep: %d, want %d", c.Num, e, want)
		}
		// The name is looked at first.
		if _, _, e := state.Do(left, fork("a", c.Num)); e != api.ErrStateTwice {
			t.Errorf("P21.2: fork of a name that is there at %d: %d", c.Num, e)
		}
	}
}

func numsOf(s api.State) []int {
	var l []int
	for _, c := range s.Commits {
		l = append(l, c.Num)
	}
	return l
}

// TestNumbersGoOn: the numbers that went are not given again, and no room comes of it among the 300.
func TestNumbersGoOn(t *testing.T) {
	s := made(t, state.New(), create("a"), load("a", "x"), remove("a"))
	left, _ := gc.Sweep(s)
	if len(left.Commits) != 0 || left.NextCommit != 3 || left.NextBranch != 2 {
		t.Errorf("G2: %s", show(left))
	}
	left = made(t, left, create("a"))
	if l := numsOf(left); !slices.Equal(l, []int{3}) || left.Branches[0].Id != 2 {
		t.Errorf("P21.2: the next commit and branch: %s", show(left))
	}
	for left.NextCommit <= 300 {
		left = made(t, left, load("a", fmt.Sprint(left.NextCommit)))
	}
	left, _ = gc.Sweep(made(t, left, fork("b", 3), remove("a")))
	if _, _, e := state.Do(left, create("c")); e != api.ErrStateFull {
		t.Errorf("P21.2: the 301st commit: %d", e)
	}
}

func someText(r *rand.Rand) string {
	var s strings.Builder
	for range r.Intn(9) {
		s.WriteString([]string{"a", "b", "é", "€", "😀"}[r.Intn(5)])
	}
	return s.String()
}

// someStep is a request or a message at random, mostly one that is not refused.
func someStep(r *rand.Rand, s api.State) any {
	fresh := string([]byte{"abcdefghij"[r.Intn(10)]})
	if len(s.Branches) == 0 {
		return create(fresh)
	}
	b := s.Branches[r.Intn(len(s.Branches))]
	other := s.Branches[r.Intn(len(s.Branches))].Name
	switch r.Intn(12) {
	case 0:
		return create(fresh)
	case 1, 2:
		return fork(fresh, 1+r.Intn(s.NextCommit))
	case 3:
		return load(b.Name, someText(r))
	case 4:
		return edit(b.Name, around(lengthOf(s, b.Log[len(b.Log)-1]), someText(r)+"x", 0)...)
	case 5, 6:
		return mix(b.Name, other)
	case 7:
		return rename(b.Name, fresh)
	case 8, 9:
		return remove(b.Name)
	}
	rev := r.Intn(len(b.Log))
	m := sent(1+r.Intn(8), 1, b.Id, rev, around(0, someText(r)+"y", lengthOf(s, b.Log[rev]))...)
	for _, c := range s.Clients {
		if c.Client == m.Client {
			m.Seq = c.Seq + 1
		}
	}
	return m
}

func lengthOf(s api.State, num int) int {
	n := 0
	l, _ := state.Doc(s, num)
	for _, x := range l {
		n += len([]rune(x.Text))
	}
	return n
}

// TestWalks: one of two states is swept again and again, and at times written as pairs and read.
func TestWalks(t *testing.T) {
	went, refused := 0, 0
	for seed := range int64(60) {
		r := rand.New(rand.NewSource(seed))
		w := twin{state.New(), state.New()}
		for range 100 {
			next, ok := w.does(t, someStep(r, w.whole))
			if !ok {
				refused++
				continue
			}
			w = next
			if r.Intn(6) == 0 {
				n := 0
				w.lean, n = gc.Sweep(w.lean)
				went += n
			}
			if r.Intn(20) == 0 {
				l, _ := record.Pairs(w.lean)
				w.lean, _ = record.Load(l)
			}
			if r.Intn(20) == 0 {
				w.holdDocs(t)
				hold(t, "a walk", w.whole)
				holdAbove(t, w.whole)
			}
		}
	}
	if went < 500 || refused < 500 {
		t.Errorf("%d commits went, %d steps were refused", went, refused)
	}
}
