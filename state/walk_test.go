package state_test

import (
	"fmt"
	"math/rand"
	"reflect"
	"slices"
	"strings"
	"testing"
	"unsafe"

	"oxbow/api"
	"oxbow/delta"
	"oxbow/record"
	"oxbow/state"
)

// TestErrorsInTheirOrder: requests in which any number of things are wrong at once.
func TestErrorsInTheirOrder(t *testing.T) {
	p := some(t)
	long := strings.Repeat("x", 1001)
	places := []pair{p, crowded(t, p, 20), full(t, 301), crowded(t, full(t, 301), 20), fresh()}
	names := []string{"", "A", "a", "b", "c", "nobody"}
	var l []api.Request
	for _, name := range names {
		for _, s := range []string{"", "q", "\xff", long, long + "\xff", long[1:]} {
			l = append(l, load(name, s))
		}
		for _, d := range [][]api.Op{nil, ops(keep(5)), ops(keep(4)), ops(keep(0)), ops(keep(1000), keep(1)), ops(keep(1000), keep(1), keep(0)), ops(gone(2), ins("x"), gone(3))} {
			l = append(l, edit(name, d...))
		}
		for _, num := range []int{-1, 0, 1, 7, 8, 300, 301} {
			l = append(l, fork(name, num))
		}
		for _, other := range append(names, "d", "e") {
			l = append(l, mix(name, other), rename(name, other))
		}
		for kind := range 14 {
			l = append(l, api.Request{Kind: kind, Name: name})
		}
	}
	for _, p := range places {
		for _, r := range l {
			if p.holdDo(t, r); t.Failed() {
				return
			}
		}
	}
}

func TestErrorsOfEditInTheirOrder(t *testing.T) {
	for _, p := range []pair{some(t), full(t, 301)} {
		for kind := range 3 {
			for _, client := range []int{0, 1, 3, 8, 9} {
				for _, branch := range []int{0, 1, 2, 4, 9} {
					for _, seq := range []int{-1, 0, 1, 2, 3, 4} {
						for _, rev := range []int{-1, 0, 1, 4, 5} {
							for _, d := range [][]api.Op{nil, ops(keep(3)), ops(keep(5)), ops(keep(0)), ops(keep(1000), keep(1))} {
								m := api.Message{Kind: kind, Client: client, Branch: branch, Seq: seq, Rev: rev, Delta: d}
								if p.holdEdit(t, m); t.Failed() {
									return
								}
							}
						}
					}
				}
			}
		}
	}
}

// A step is a request, or else an edit that is made on a branch so many revisions ahead of its tip.
type step struct {
	r      api.Request
	client int
	branch int
	back   int
	skip   int // by how much the Seq is not the next one
	d      func(n int) []api.Op
}

// front and back put a text in ahead of all and behind all, half deletes the first half.
func front(s string) func(n int) []api.Op {
	return func(n int) []api.Op { return around(0, s, n) }
}

func back(s string) func(n int) []api.Op {
	return func(n int) []api.Op { return around(n, s, 0) }
}

func half(n int) []api.Op {
	var d []api.Op
	if n/2 > 0 {
		d = append(d, gone(n/2))
	}
	if n-n/2 > 0 {
		d = append(d, keep(n-n/2))
	}
	return d
}

func around(ahead int, s string, behind int) []api.Op {
	var d []api.Op
	if ahead > 0 {
		d = append(d, keep(ahead))
	}
	d = append(d, ins(s))
	if behind > 0 {
		d = append(d, keep(behind))
	}
	return d
}

// message is the edit of a step, as a client of that state would make it.
func (x step) message(p pair) api.Message {
	m := api.Message{Kind: api.MsgEdit, Client: x.client, Branch: x.branch, Seq: 1 + x.skip}
	for _, c := range p.s.Clients {
		if c.Client == x.client {
			m.Seq = c.Seq + 1 + x.skip
		}
	}
	n := 0
	if b := p.k.numbered(x.branch); b != nil {
		m.Rev = len(b.Log) - 1 - x.back
		if m.Rev >= 0 {
			n = len(p.k.docs[b.Log[m.Rev]])
		}
	}
	m.Delta = x.d(n)
	return m
}

func (x step) on(t *testing.T, p pair) (pair, api.Errno) {
	t.Helper()
	if x.d == nil {
		return p.holdDo(t, x.r)
	}
	return p.holdEdit(t, x.message(p))
}

// TestEveryShortRow: all rows of five steps out of these, as far as they are not refused.
func TestEveryShortRow(t *testing.T) {
	steps := []step{
		{r: load("a", "xaby")}, {r: load("b", "b")}, {r: edit("b", ins("q"), keep(2))},
		{r: mix("a", "b")}, {r: mix("b", "a")}, {r: mix("a", "c")},
		{r: fork("c", 3)}, {r: create("c")}, {r: remove("b")}, {r: rename("b", "c")}, {r: rename("c", "b")},
		{client: 1, branch: 1, back: 1, d: front("1")}, {client: 1, branch: 2, d: half}, {client: 2, branch: 2, back: 1, d: back("2")},
	}
	states, merges := 0, 0
	var walk func(p pair, left int)
	walk = func(p pair, left int) {
		if left > 0 {
			p.holdAll(t)
		}
		if left == 1 {
			p.holdTexts(t)
			p.eitherWay(t, "a", "b")
			p.eitherWay(t, "a", "c")
		}
		if left == 0 || t.Failed() {
			return
		}
		for _, x := range steps {
			q, e := x.on(t, p)
			if e == api.OK {
				states++
				if last := q.s.Commits[len(q.s.Commits)-1]; len(last.Parents) == 2 {
					merges++
				}
				walk(q, left-1)
			}
		}
	}
	walk(fresh().after(t, create("a"), load("a", "ab"), fork("b", 2)), 5)
	if states < 50000 || merges < 10000 {
		t.Errorf("only %d states and %d merges were come to", states, merges)
	}
}

func someText(r *rand.Rand) string {
	var s strings.Builder
	for range r.Intn(12) {
		s.WriteString([]string{"a", "b", "é", "€", "😀"}[r.Intn(5)])
	}
	return s.String()
}

// turned is a text with a bit of it another one.
func turned(r *rand.Rand, s string) string {
	l := []rune(s)
	from := r.Intn(len(l) + 1)
	to := from + r.Intn(len(l)-from+1)
	if r.Intn(3) > 0 {
		to = min(to, from+2)
	}
	return string(l[:from]) + someText(r) + string(l[to:])
}

// someDelta is one of a text of n code points, often not normal.
func someDelta(r *rand.Rand, n int) []api.Op {
	var d []api.Op
	for n > 0 {
		m := 1 + r.Intn(n)
		switch r.Intn(5) {
		case 0:
			d, n = append(d, gone(m)), n-m
		case 1, 2:
			d, n = append(d, keep(m)), n-m
		default:
			d = append(d, ins("x"+someText(r)))
		}
	}
	if r.Intn(3) == 0 {
		d = append(d, ins("z"))
	}
	return d
}

// someName is one that may be there; some are none.
func someName(r *rand.Rand) string {
	if r.Intn(40) == 0 {
		return []string{"", "A", "abcdefghijklm", "a b"}[r.Intn(4)]
	}
	return string([]byte{"abcdefghijklmnopqrstuvw"[r.Intn(23)]})
}

// someStep is a step at random: names that are there come more often than others.
func someStep(r *rand.Rand, p pair) step {
	name := func() string {
		if len(p.s.Branches) == 0 || r.Intn(10) == 0 {
			return someName(r)
		}
		return p.s.Branches[r.Intn(len(p.s.Branches))].Name
	}
	text := func(of string) string {
		if b := p.k.branch(of); b != nil {
			return turned(r, textOf(p.k.docs[p.k.tipOf(of)]))
		}
		return someText(r)
	}
	of := name()
	switch r.Intn(16) {
	case 0:
		return step{r: create(someName(r))}
	case 1, 2:
		return step{r: fork(someName(r), 1+r.Intn(p.s.NextCommit))}
	case 3, 4:
		return step{r: load(of, text(of))}
	case 5, 6:
		n := 0
		if b := p.k.branch(of); b != nil {
			n = len(p.k.docs[p.k.tipOf(of)])
		}
		return step{r: edit(of, someDelta(r, n)...)}
	case 7, 8, 9:
		return step{r: mix(of, name())}
	case 10:
		return step{r: rename(of, someName(r))}
	case 11:
		if r.Intn(3) > 0 {
			return step{r: tip(of)}
		}
		return step{r: remove(of)}
	}
	x := step{client: 1 + r.Intn(8), branch: 1 + r.Intn(p.s.NextBranch), back: r.Intn(4), d: func(n int) []api.Op { return someDelta(r, n) }}
	for _, c := range p.s.Clients {
		if c.Client == x.client && r.Intn(8) > 0 {
			x.branch = c.Branch
		}
	}
	if r.Intn(10) == 0 {
		x.skip = r.Intn(4) - 2
	}
	return x
}

// loaded is a state that was written as pairs and read again: it must be worth the same.
func loaded(t *testing.T, s api.State) api.State {
	t.Helper()
	l, e := record.Pairs(s)
	if e != api.OK {
		t.Fatalf("P15.1: Pairs of a state: %d", e)
	}
	again, e := record.Load(l)
	if e != api.OK || !same(again, s) {
		t.Fatalf("P15.1: Load of Pairs: %s, %d, want %s", show(again), e, show(s))
	}
	return again
}

// holdOrder holds that documents along one branch order the atoms that both have alike, and that what is gone does not come back (P6).
func (p pair) holdOrder(t *testing.T, b api.Branch) {
	t.Helper()
	seen := map[unit]int{} // with the last revision that had it
	for rev, num := range b.Log {
		place := map[unit]int{}
		for i, u := range p.k.docs[num] {
			place[u] = i
			if last, was := seen[u]; was && last != rev-1 {
				t.Errorf("P6: branch %d: %v is back at the revision %d", b.Id, u, rev)
			}
			seen[u] = rev
		}
		for _, ahead := range b.Log[:rev] {
			last := -1
			for _, u := range p.k.docs[ahead] {
				at, both := place[u]
				if both && at < last {
					t.Errorf("P6: branch %d: the revision %d has another order", b.Id, rev)
				}
				if both {
					last = at
				}
			}
		}
	}
}

// holdClients holds that each edit is in its branch once at most, in the client's order (P4).
func (p pair) holdClients(t *testing.T) {
	t.Helper()
	next := map[int]int{}
	for _, c := range p.s.Commits {
		if c.Client == 0 {
			continue
		}
		next[c.Client]++
		if c.Seq != next[c.Client] {
			t.Errorf("P4: the client %d's edit %d stands where %d should", c.Client, c.Seq, next[c.Client])
		}
	}
	for _, c := range p.s.Clients {
		if c.Seq != next[c.Client] {
			t.Errorf("P4: of the client %d %d edits are known, %d there", c.Client, c.Seq, next[c.Client])
		}
	}
}

// swept is a pair without the commits that no branch needs, as a sweep leaves it.
func (p pair) swept() pair {
	needed := map[int]bool{}
	for _, b := range p.s.Branches {
		for _, num := range b.Log {
			for _, n := range p.k.above[num] {
				needed[n] = true
			}
		}
	}
	k := p.k.clone()
	k.Commits = slices.DeleteFunc(k.Commits, func(c api.Commit) bool { return !needed[c.Num] })
	for num := range p.k.docs {
		if !needed[num] {
			delete(k.docs, num)
			delete(k.above, num)
		}
	}
	return pair{plain(k.State), k}
}

func TestWalks(t *testing.T) {
	const walks, steps = 60, 160
	counts := map[api.Errno]int{}
	went := 0
	for seed := range walks {
		r := rand.New(rand.NewSource(int64(seed)))
		p := fresh().after(t, create("a"), load("a", "abc"), fork("b", 2))
		for i := range steps {
			q, e := someStep(r, p).on(t, p)
			counts[e]++
			if p = q; t.Failed() {
				t.Fatalf("in the walk %d, at the step %d", seed, i)
			}
			if r.Intn(40) == 0 {
				p.s = loaded(t, p.s)
			}
			if n := len(p.s.Commits); seed%3 == 0 && r.Intn(20) == 0 {
				p = p.swept()
				went += n - len(p.s.Commits)
			}
			if n := len(p.s.Branches); n > 1 && r.Intn(10) == 0 {
				p.eitherWay(t, p.s.Branches[r.Intn(n)].Name, p.s.Branches[r.Intn(n)].Name)
			}
		}
		p.holdAll(t)
		p.holdTexts(t)
		if seed%3 > 0 {
			p.holdClients(t)
		}
		for _, b := range p.s.Branches {
			p.holdOrder(t, b)
		}
	}
	if went < 100 {
		t.Errorf("only %d commits were swept in all walks", went)
	}
	for _, e := range []api.Errno{api.OK, api.ErrMergeBase, api.ErrMergeMany, api.ErrStateName, api.ErrStateTwice, api.ErrStateNone, api.ErrStateRange, api.ErrStateClient, api.ErrStateOld, api.ErrStateGap} {
		if counts[e] < 10 {
			t.Errorf("the walks met the error %d only %d times", e, counts[e])
		}
	}
}

// smallDelta turns but a little of a text of n code points.
func smallDelta(r *rand.Rand, n int) []api.Op {
	at := r.Intn(n + 1)
	out := min(n-at, r.Intn(4))
	var d []api.Op
	if at > 0 {
		d = append(d, keep(at))
	}
	if put := r.Intn(5); put > 0 && n-out+put <= 1000 {
		d = append(d, ins("zyxw"[:put]))
	}
	if out > 0 {
		d = append(d, gone(out))
	}
	if left := n - at - out; left > 0 {
		d = append(d, keep(left))
	}
	return d
}

// TestWalkToTheEnd: to 300 commits, with texts about as long as they can be.
func TestWalkToTheEnd(t *testing.T) {
	r := rand.New(rand.NewSource(99))
	long := strings.Repeat("abcdefghij", 98)
	p := fresh().after(t, create("a"), load("a", long), fork("b", 2), fork("c", 2))
	counts := map[api.Errno]int{}
	for i := 0; counts[api.ErrStateFull] < 20 && i < 3000; i++ {
		x := someStep(r, p)
		if x.r.Kind == api.ReqDelete || x.r.Kind == api.ReqCreate {
			continue
		}
		if x.d != nil {
			x.branch, x.client = 1+x.branch%3, 1+x.branch%3
			x.d = func(n int) []api.Op { return smallDelta(r, n) }
		}
		if b := p.k.branch(x.r.Name); b != nil && x.r.Kind == api.ReqImport {
			x.r.Text, _ = delta.Apply(textOf(p.k.docs[p.k.tipOf(b.Name)]), smallDelta(r, len(p.k.docs[p.k.tipOf(b.Name)])))
		}
		if b := p.k.branch(x.r.Name); b != nil && x.r.Kind == api.ReqEdit {
			x.r.Delta = smallDelta(r, len(p.k.docs[p.k.tipOf(b.Name)]))
		}
		q, e := x.on(t, p)
		counts[e]++
		if p = q; t.Failed() {
			t.Fatalf("at the step %d", i)
		}
	}
	p.holdTexts(t)
	p.holdClients(t)
	for _, b := range p.s.Branches {
		p.holdOrder(t, b)
		p.eitherWay(t, p.s.Branches[0].Name, b.Name)
	}
	if p.s.NextCommit != 301 || counts[api.ErrStateFull] < 20 || counts[api.ErrStateTooLong] == 0 {
		t.Errorf("the next commit is %d; the errors were %v", p.s.NextCommit, counts)
	}
	loaded(t, p.s)
}

// A span is the memory that a list, with its spare room, or a text takes.
type span struct{ from, to uintptr }

func overlap(a span, b span) bool { return a.from < b.to && b.from < a.to }

// spans are those of all lists and all texts of a value. Texts of one byte may be the runtime's own.
func spans(v reflect.Value) (lists []span, texts []span) {
	add := func(v reflect.Value) {
		l, s := spans(v)
		lists, texts = append(lists, l...), append(texts, s...)
	}
	switch v.Kind() {
	case reflect.Slice:
		if v.Cap() > 0 {
			lists = append(lists, span{v.Pointer(), v.Pointer() + uintptr(v.Cap())*v.Type().Elem().Size()})
		}
		for i := range v.Len() {
			add(v.Index(i))
		}
	case reflect.Struct:
		for i := range v.NumField() {
			add(v.Field(i))
		}
	case reflect.String:
		if s := v.String(); len(s) > 1 {
			from := uintptr(unsafe.Pointer(unsafe.StringData(s)))
			texts = append(texts, span{from, from + uintptr(len(s))})
		}
	}
	return lists, texts
}

// apart holds that an answer is new memory, and that no two lists of it share any.
func apart(t *testing.T, what string, answer any, arguments ...any) {
	t.Helper()
	lists, texts := spans(reflect.ValueOf(answer))
	for i, a := range lists {
		for _, b := range lists[:i] {
			if overlap(a, b) {
				t.Fatalf("R5: %s: two lists of the answer share memory", what)
			}
		}
	}
	for _, x := range arguments {
		given, words := spans(reflect.ValueOf(x))
		for _, a := range lists {
			if slices.ContainsFunc(given, func(b span) bool { return overlap(a, b) }) {
				t.Fatalf("R5: %s: a list of the answer is one that was handed in", what)
			}
		}
		for _, a := range texts {
			if slices.ContainsFunc(words, func(b span) bool { return overlap(a, b) }) {
				t.Fatalf("R5: %s: a text of the answer is a piece of one that was handed in", what)
			}
		}
	}
}

// roomy is a state whose lists all have spare room.
func roomy(s api.State) api.State {
	s.Commits, s.Branches, s.Clients = slices.Grow(s.Commits, 9), slices.Grow(s.Branches, 9), slices.Grow(s.Clients, 9)
	for i := range s.Commits {
		c := &s.Commits[i]
		c.Parents, c.Delta, c.Other = slices.Grow(c.Parents, 9), slices.Grow(c.Delta, 9), slices.Grow(c.Other, 9)
	}
	for i := range s.Branches {
		s.Branches[i].Log = slices.Grow(s.Branches[i].Log, 9)
	}
	return s
}

func TestAnswersAreNewMemory(t *testing.T) {
	type answer struct {
		s api.State
		q api.Reply
	}
	p := some(t).after(t, rename("a", "longname"), fork("otherlong", 4), load("otherlong", "some words"), edit("e", ins("words"), keep(4)), mix("b", "longname"))
	s := roomy(plain(p.s))
	for _, r := range []api.Request{create("newlongname"), load("c", "other words"), edit("c", ins("more"), ins("words")), fork("newlongname", 3), mix("otherlong", "longname"), mix("longname", "longname"), rename("b", "newlongname"), remove("b"), read("b"), blame("b"), log("b"), tip("b")} {
		r = api.Request{Kind: r.Kind, Name: strings.Clone(r.Name), Other: strings.Clone(r.Other), Num: r.Num, Text: strings.Clone(r.Text), Delta: slices.Grow(slices.Clone(r.Delta), 9)}
		was := fmt.Sprint(s, r)
		behind, q, e := state.Do(s, r)
		if e != api.OK {
			t.Fatalf("P19.3: Do(%s): %d", show(r), e)
		}
		apart(t, show(r), answer{behind, q}, s, r)
		if fmt.Sprint(s, r) != was {
			t.Errorf("R5: Do(%s) has changed what it was given", show(r))
		}
	}
	for _, m := range []api.Message{sent(3, 3, 1, 4, keep(5), ins("words")), sent(3, 3, 1, 1, keep(3), ins("words")), sent(1, 1, 1, 4, ins("one"), ins("two"), keep(5))} {
		m.Delta = slices.Grow(m.Delta, 9)
		was := fmt.Sprint(s, m)
		behind, e := state.Edit(s, m)
		if e != api.OK {
			t.Fatalf("P19.4: Edit(%s): %d", show(m), e)
		}
		apart(t, show(m), behind, s, m)
		if fmt.Sprint(s, m) != was {
			t.Errorf("R5: Edit(%s) has changed what it was given", show(m))
		}
	}
	for _, b := range s.Branches {
		l, e := state.Revs(s, b.Id, 0)
		if e != api.OK {
			t.Fatalf("P19.5: %d", e)
		}
		apart(t, "Revs", l, s)
	}
	for _, c := range s.Commits {
		l, e := state.Doc(s, c.Num)
		if e != api.OK {
			t.Fatalf("P19.2: %d", e)
		}
		apart(t, "Doc", l, s)
	}
}

// TestAnswersMayBeWrittenInto: what a caller does to an answer does not show in another one.
func TestAnswersMayBeWrittenInto(t *testing.T) {
	p := some(t)
	was := plain(p.s)
	for range 2 {
		s, q, _ := state.Do(p.s, blame("a"))
		for i := range s.Commits {
			for _, d := range [][]api.Op{s.Commits[i].Delta, s.Commits[i].Other} {
				for j := range d[:cap(d)] {
					d[:cap(d)][j] = api.Op{Kind: 9}
				}
			}
			s.Commits[i].Num = -1
		}
		for i := range s.Branches {
			s.Branches[i].Log[0], s.Branches[i].Name = -1, "?"
		}
		s.Clients[0].Seq = -1
		q.Runs[0].Text = "?"
		l, _ := state.Revs(p.s, 1, 0)
		l[0].Delta[0].Text = "?"
		runs, _ := state.Doc(p.s, 3)
		runs[0].Text = "?"
		_, q, _ = state.Do(p.s, log("a"))
		q.Log[0] = -1
		if !same(p.s, was) {
			t.Fatalf("R5: %s", show(p.s))
		}
		p.holdAll(t)
	}
	first, _, _ := state.Do(p.s, load("a", "one"))
	second, _, _ := state.Do(p.s, load("a", "two"))
	if a, b := first.Commits[7].Delta, second.Commits[7].Delta; slices.Equal(a, b) {
		t.Errorf("R5: two states that came of one share their commits: %s, %s", show(a), show(b))
	}
}

// TestStatesThatNoMachineMade: of these nothing is promised, but they end and do not panic.
func TestStatesThatNoMachineMade(t *testing.T) {
	ring := []api.Commit{{Num: 1, Parents: []int{2}, Delta: ops(keep(2))}, {Num: 2, Parents: []int{1, 1}, Delta: ops(ins("x"))}, {Num: 2}, {Num: 1, Parents: []int{7, 8, 9}}}
	loose := []api.Commit{{Num: 3, Parents: []int{1}, Delta: ops(keep(7))}, {Num: 5, Parents: []int{3, 4}, Delta: ops(keep(0))}, {Num: 6, Client: 99, Seq: -1, Delta: ops(ins("\xff"))}, {Num: 7, Parents: []int{3, 6}}}
	for _, s := range []api.State{
		{},
		{NextCommit: -5, NextBranch: -5, Branches: []api.Branch{{Name: "a"}, {Name: "b", Log: []int{-1}}}},
		{NextCommit: 3, NextBranch: 3, Commits: ring, Branches: []api.Branch{{Id: 1, Name: "a", Log: []int{1, 2}}, {Id: 2, Name: "b", Log: []int{2}}}},
		{NextCommit: 8, NextBranch: 3, Commits: loose, Branches: []api.Branch{{Id: 1, Name: "a", Log: []int{3, 7}}, {Id: 2, Name: "b", Log: []int{6, 5}}, {Id: 2, Name: "b"}}, Clients: []api.Client{{Client: 5}, {Client: 1}, {Client: 5}}},
	} {
		for kind := range 13 {
			for _, name := range []string{"a", "b", "c"} {
				for _, other := range []string{"a", "b", "c"} {
					state.Do(s, api.Request{Kind: kind, Name: name, Other: other, Num: 1, Text: "x"})
				}
			}
		}
		for branch := range 4 {
			for rev := -1; rev < 4; rev++ {
				state.Revs(s, branch, rev)
				for n := range 8 {
					state.Edit(s, sent(1, 1, branch, rev, half(n)...))
					state.Doc(s, n)
				}
			}
		}
	}
}

// TestNothingIsKept: what one call was given does not show in the next one.
func TestNothingIsKept(t *testing.T) {
	for range 3 {
		some(t).holdAll(t)
		crosswise(t).holdAll(t)
		fresh().holdAll(t)
	}
}
