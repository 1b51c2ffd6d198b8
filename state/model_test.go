package state_test

import (
	"fmt"
	"maps"
	"slices"
	"strings"
	"testing"
	"unicode/utf8"

	"oxbow/api"
	"oxbow/delta"
	"oxbow/diff"
	"oxbow/merge"
	"oxbow/ot"
	"oxbow/state"
)

func keep(n int) api.Op        { return api.Op{Kind: api.OpKeep, N: n} }
func gone(n int) api.Op        { return api.Op{Kind: api.OpDelete, N: n} }
func ins(s string) api.Op      { return api.Op{Kind: api.OpInsert, Text: s} }
func ops(l ...api.Op) []api.Op { return l }

func run(client int, seq int, from int, s string) api.Run {
	return api.Run{Origin: api.Origin{Client: client, Seq: seq}, From: from, Text: s}
}

func create(name string) api.Request { return api.Request{Kind: api.ReqCreate, Name: name} }
func load(name string, s string) api.Request {
	return api.Request{Kind: api.ReqImport, Name: name, Text: s}
}
func edit(name string, l ...api.Op) api.Request {
	return api.Request{Kind: api.ReqEdit, Name: name, Delta: l}
}
func fork(name string, num int) api.Request {
	return api.Request{Kind: api.ReqFork, Name: name, Num: num}
}
func mix(name string, other string) api.Request {
	return api.Request{Kind: api.ReqMerge, Name: name, Other: other}
}
func rename(name string, other string) api.Request {
	return api.Request{Kind: api.ReqRename, Name: name, Other: other}
}
func remove(name string) api.Request { return api.Request{Kind: api.ReqDelete, Name: name} }
func read(name string) api.Request   { return api.Request{Kind: api.ReqRead, Name: name} }
func blame(name string) api.Request  { return api.Request{Kind: api.ReqBlame, Name: name} }
func log(name string) api.Request    { return api.Request{Kind: api.ReqLog, Name: name} }
func tip(name string) api.Request    { return api.Request{Kind: api.ReqTip, Name: name} }

func sent(client int, seq int, branch int, rev int, l ...api.Op) api.Message {
	return api.Message{Kind: api.MsgEdit, Client: client, Seq: seq, Branch: branch, Rev: rev, Delta: l}
}

// show tells what there is in a line, however long it is.
func show(x any) string {
	const most = 500
	s := fmt.Sprintf("%+q", fmt.Sprintf("%v", x))
	if len(s) > most {
		return fmt.Sprintf("%s.. (%d bytes)", s[:most], len(s))
	}
	return s
}

// plain is a copy of a state, down to its last list.
func plain(s api.State) api.State {
	s.Commits, s.Branches, s.Clients = slices.Clone(s.Commits), slices.Clone(s.Branches), slices.Clone(s.Clients)
	for i := range s.Commits {
		c := &s.Commits[i]
		c.Parents, c.Delta, c.Other = slices.Clone(c.Parents), slices.Clone(c.Delta), slices.Clone(c.Other)
	}
	for i := range s.Branches {
		s.Branches[i].Log = slices.Clone(s.Branches[i].Log)
	}
	return s
}

// same tells whether two states are the same, lists that are nil and empty ones being alike.
func same(a api.State, b api.State) bool {
	return a.NextCommit == b.NextCommit && a.NextBranch == b.NextBranch && slices.Equal(a.Clients, b.Clients) &&
		slices.EqualFunc(a.Commits, b.Commits, func(x api.Commit, y api.Commit) bool {
			return x.Num == y.Num && x.Client == y.Client && x.Seq == y.Seq && slices.Equal(x.Parents, y.Parents) && slices.Equal(x.Delta, y.Delta) && slices.Equal(x.Other, y.Other)
		}) &&
		slices.EqualFunc(a.Branches, b.Branches, func(x api.Branch, y api.Branch) bool {
			return x.Id == y.Id && x.Name == y.Name && slices.Equal(x.Log, y.Log)
		})
}

func sameReply(a api.Reply, b api.Reply) bool {
	return a.Kind == b.Kind && a.Num == b.Num && a.Text == b.Text && slices.Equal(a.Runs, b.Runs) && slices.Equal(a.Log, b.Log)
}

func sameRevs(a []api.Rev, b []api.Rev) bool {
	return slices.EqualFunc(a, b, func(x api.Rev, y api.Rev) bool {
		return x.Rev == y.Rev && x.Client == y.Client && x.Seq == y.Seq && slices.Equal(x.Delta, y.Delta)
	})
}

// A unit is an atom of the tests' own, with its code point.
type unit struct {
	origin api.Origin
	num    int
	point  rune
}

func unitsOf(l []api.Run) []unit {
	var all []unit
	for _, r := range l {
		for i, p := range []rune(r.Text) {
			all = append(all, unit{r.Origin, r.From + i, p})
		}
	}
	return all
}

func runsOf(all []unit) []api.Run {
	var l []api.Run
	for i, u := range all {
		if i > 0 && all[i-1].origin == u.origin && all[i-1].num+1 == u.num {
			l[len(l)-1].Text += string(u.point)
		} else {
			l = append(l, api.Run{Origin: u.origin, From: u.num, Text: string(u.point)})
		}
	}
	return l
}

func textOf(all []unit) string {
	var s strings.Builder
	for _, u := range all {
		s.WriteRune(u.point)
	}
	return s.String()
}

// behind are the atoms behind a delta that fits them.
func behind(all []unit, d []api.Op, o api.Origin) []unit {
	var became []unit
	num := 0
	for _, op := range d {
		switch op.Kind {
		case api.OpKeep:
			became, all = append(became, all[:op.N]...), all[op.N:]
		case api.OpDelete:
			all = all[op.N:]
		case api.OpInsert:
			for _, p := range op.Text {
				became = append(became, unit{o, num, p})
				num++
			}
		}
	}
	return became
}

// A sketch is the machine by the chapter's words. What a commit's document is, and who is Above it, it notes when the commit is made, and never works out again.
type sketch struct {
	api.State
	docs  map[int][]unit
	above map[int][]int
}

func begun() sketch {
	return sketch{api.State{NextCommit: 1, NextBranch: 1}, map[int][]unit{}, map[int][]int{}}
}

func (k sketch) clone() sketch {
	return sketch{plain(k.State), maps.Clone(k.docs), maps.Clone(k.above)}
}

func (k *sketch) branch(name string) *api.Branch {
	for i := range k.Branches {
		if k.Branches[i].Name == name {
			return &k.Branches[i]
		}
	}
	return nil
}

func (k *sketch) numbered(id int) *api.Branch {
	for i := range k.Branches {
		if k.Branches[i].Id == id {
			return &k.Branches[i]
		}
	}
	return nil
}

func (k *sketch) tipOf(name string) int {
	l := k.branch(name).Log
	return l[len(l)-1]
}

func (k *sketch) commit(c api.Commit, document []unit) int {
	c.Num = k.NextCommit
	k.NextCommit++
	k.Commits = append(k.Commits, c)
	up := []int{c.Num}
	for _, p := range c.Parents {
		up = append(up, k.above[p]...)
	}
	slices.Sort(up)
	k.above[c.Num] = slices.Compact(up)
	k.docs[c.Num] = document
	return c.Num
}

// onto makes a new commit on a branch; with no document of its own it has that of the tip behind its Delta.
func (k *sketch) onto(b *api.Branch, c api.Commit, document []unit) int {
	last := b.Log[len(b.Log)-1]
	c.Parents = append([]int{last}, c.Parents...)
	if len(c.Parents) == 1 {
		o := api.Origin{Seq: k.NextCommit}
		if c.Client != 0 {
			o = api.Origin{Client: c.Client, Seq: c.Seq}
		}
		document = behind(k.docs[last], c.Delta, o)
	}
	num := k.commit(c, document)
	b.Log = append(b.Log, num)
	return num
}

func (k *sketch) found(name string, first int) int {
	k.Branches = append(k.Branches, api.Branch{Id: k.NextBranch, Name: name, Log: []int{first}})
	k.NextBranch++
	return k.NextBranch - 1
}

func isName(s string) bool {
	return 1 <= len(s) && len(s) <= 12 && strings.Trim(s, "abcdefghijklmnopqrstuvwxyz0123456789") == ""
}

// common are dag.Common's, told by who is Above whom.
func (k *sketch) common(a int, b int) []int {
	var both []int
	for _, n := range k.above[a] {
		if slices.Contains(k.above[b], n) {
			both = append(both, n)
		}
	}
	return slices.DeleteFunc(slices.Clone(both), func(n int) bool {
		return slices.ContainsFunc(both, func(m int) bool { return m != n && slices.Contains(k.above[m], n) })
	})
}

// do is P19.3.
func (k sketch) do(r api.Request) (sketch, api.Reply, api.Errno) {
	if r.Kind < 1 || r.Kind > 11 {
		return sketch{}, api.Reply{}, api.ErrArg
	}
	if !isName(r.Name) {
		return sketch{}, api.Reply{}, api.ErrStateName
	}
	k = k.clone()
	var q api.Reply
	var e api.Errno
	switch r.Kind {
	case api.ReqCreate, api.ReqFork:
		q, e = k.begin(r)
	case api.ReqImport, api.ReqEdit, api.ReqMerge:
		q, e = k.turn(r)
	case api.ReqRename, api.ReqDelete:
		q, e = k.name(r)
	default:
		q, e = k.tell(r)
	}
	if e != api.OK {
		return sketch{}, api.Reply{}, e
	}
	q.Kind = r.Kind
	return k, q, api.OK
}

func (k *sketch) begin(r api.Request) (api.Reply, api.Errno) {
	if k.branch(r.Name) != nil {
		return api.Reply{}, api.ErrStateTwice
	}
	if _, there := k.docs[r.Num]; r.Kind == api.ReqFork && !there {
		return api.Reply{}, api.ErrStateNone
	}
	if len(k.Branches) >= 20 || r.Kind == api.ReqCreate && k.NextCommit > 300 {
		return api.Reply{}, api.ErrStateFull
	}
	if r.Kind == api.ReqCreate {
		return api.Reply{Num: k.found(r.Name, k.commit(api.Commit{}, nil))}, api.OK
	}
	return api.Reply{Num: k.found(r.Name, r.Num)}, api.OK
}

func (k *sketch) turn(r api.Request) (api.Reply, api.Errno) {
	b := k.branch(r.Name)
	if b == nil {
		return api.Reply{}, api.ErrStateNone
	}
	last := k.tipOf(r.Name)
	var c api.Commit
	var document []unit
	switch r.Kind {
	case api.ReqImport:
		if !utf8.ValidString(r.Text) {
			return api.Reply{}, api.ErrText
		}
		if len([]rune(r.Text)) > 1000 {
			return api.Reply{}, api.ErrStateTooLong
		}
		c.Delta, _ = diff.Diff(textOf(k.docs[last]), r.Text)
	case api.ReqEdit:
		if e := delta.Check(r.Delta); e != api.OK {
			return api.Reply{}, e
		}
		if n, _ := delta.Base(r.Delta); n != len(k.docs[last]) {
			return api.Reply{}, api.ErrDeltaLength
		}
		c.Delta, _ = delta.Normal(r.Delta)
	case api.ReqMerge:
		if !isName(r.Other) {
			return api.Reply{}, api.ErrStateName
		}
		if k.branch(r.Other) == nil {
			return api.Reply{}, api.ErrStateNone
		}
		other := k.tipOf(r.Other)
		if slices.Contains(k.above[last], other) {
			return api.Reply{Num: last}, api.OK
		}
		var e api.Errno
		if c, document, e = k.mixed(last, other); e != api.OK {
			return api.Reply{}, e
		}
	}
	if k.NextCommit > 300 {
		return api.Reply{}, api.ErrStateFull
	}
	return api.Reply{Num: k.onto(b, c, document)}, api.OK
}

func (k *sketch) mixed(last int, other int) (api.Commit, []unit, api.Errno) {
	common := k.common(last, other)
	if len(common) == 0 {
		return api.Commit{}, nil, api.ErrMergeBase
	}
	if len(common) > 1 {
		return api.Commit{}, nil, api.ErrMergeMany
	}
	x, y := runsOf(k.docs[last]), runsOf(k.docs[other])
	l, e := merge.Docs(runsOf(k.docs[common[0]]), x, y, last, other)
	if e == api.ErrDeltaLength {
		return api.Commit{}, nil, api.ErrStateTooLong
	}
	if e != api.OK {
		panic(fmt.Sprintf("merge.Docs of %d and %d: %d", last, other, e))
	}
	c := api.Commit{Parents: []int{other}}
	c.Delta, _ = merge.Delta(x, l)
	c.Other, _ = merge.Delta(y, l)
	return c, unitsOf(l), api.OK
}

func (k *sketch) name(r api.Request) (api.Reply, api.Errno) {
	b := k.branch(r.Name)
	if b == nil {
		return api.Reply{}, api.ErrStateNone
	}
	if r.Kind == api.ReqDelete {
		id := b.Id
		k.Branches = slices.DeleteFunc(k.Branches, func(b api.Branch) bool { return b.Id == id })
		return api.Reply{Num: id}, api.OK
	}
	if !isName(r.Other) {
		return api.Reply{}, api.ErrStateName
	}
	if k.branch(r.Other) != nil {
		return api.Reply{}, api.ErrStateTwice
	}
	b.Name = r.Other
	return api.Reply{Num: b.Id}, api.OK
}

func (k *sketch) tell(r api.Request) (api.Reply, api.Errno) {
	if k.branch(r.Name) == nil {
		return api.Reply{}, api.ErrStateNone
	}
	q := api.Reply{Num: k.tipOf(r.Name)}
	switch r.Kind {
	case api.ReqRead:
		q.Text = textOf(k.docs[q.Num])
	case api.ReqBlame:
		q.Runs = runsOf(k.docs[q.Num])
	case api.ReqLog:
		q.Log = k.above[q.Num]
	}
	return q, api.OK
}

// take is P19.4.
func (k sketch) take(m api.Message) (sketch, api.Errno) {
	if m.Kind != 1 || m.Client < 1 || m.Client > 8 {
		return sketch{}, api.ErrArg
	}
	b := k.numbered(m.Branch)
	if b == nil {
		return sketch{}, api.ErrStateNone
	}
	last := api.Client{Client: m.Client, Branch: m.Branch}
	for _, c := range k.Clients {
		if c.Client == m.Client {
			last = c
		}
	}
	switch {
	case last.Branch != m.Branch:
		return sketch{}, api.ErrStateClient
	case m.Seq < 1 || m.Seq <= last.Seq:
		return sketch{}, api.ErrStateOld
	case m.Seq > last.Seq+1:
		return sketch{}, api.ErrStateGap
	case m.Rev < 0 || m.Rev >= len(b.Log):
		return sketch{}, api.ErrStateRange
	case delta.Check(m.Delta) != api.OK:
		return sketch{}, delta.Check(m.Delta)
	}
	if n, _ := delta.Base(m.Delta); n != len(k.docs[b.Log[m.Rev]]) {
		return sketch{}, api.ErrDeltaLength
	}
	d := slices.Clone(m.Delta)
	for _, num := range b.Log[m.Rev+1:] {
		for _, c := range k.Commits {
			if c.Num != num {
				continue
			}
			var e api.Errno
			if d, e = ot.Transform(d, c.Delta, false); e != api.OK {
				return sketch{}, api.ErrStateTooLong
			}
		}
	}
	if k.NextCommit > 300 {
		return sketch{}, api.ErrStateFull
	}
	k = k.clone()
	k.onto(k.numbered(m.Branch), api.Commit{Delta: d, Client: m.Client, Seq: m.Seq}, nil)
	k.Clients = slices.DeleteFunc(k.Clients, func(c api.Client) bool { return c.Client == m.Client })
	k.Clients = append(k.Clients, api.Client{Client: m.Client, Branch: m.Branch, Seq: m.Seq})
	slices.SortFunc(k.Clients, func(a api.Client, b api.Client) int { return a.Client - b.Client })
	return k, api.OK
}

// revs is P19.5.
func (k sketch) revs(branch int, rev int) ([]api.Rev, api.Errno) {
	b := k.numbered(branch)
	if b == nil {
		return nil, api.ErrStateNone
	}
	if rev < 0 || rev >= len(b.Log) {
		return nil, api.ErrStateRange
	}
	var l []api.Rev
	for i, num := range b.Log {
		for _, c := range k.Commits {
			if i > rev && c.Num == num {
				l = append(l, api.Rev{Rev: i, Delta: c.Delta, Client: c.Client, Seq: c.Seq})
			}
		}
	}
	return l, api.OK
}

// A pair is a state, and the sketch of it: as that has a state of its own, it shows whether a call changes what it is given.
type pair struct {
	s api.State
	k sketch
}

func fresh() pair { return pair{state.New(), begun()} }

// holdDo holds Do of a request against the sketch, and is the pair behind it, or the same one, if it was refused.
func (p pair) holdDo(t *testing.T, r api.Request) (pair, api.Errno) {
	t.Helper()
	s, q, e := state.Do(p.s, r)
	k, wantQ, want := p.k.do(r)
	if e != want || !sameReply(q, wantQ) {
		t.Errorf("P19.3: Do(%s): %s, %d, want %s, %d", show(r), show(q), e, show(wantQ), want)
	}
	if !same(s, k.State) {
		t.Errorf("P19.3: Do(%s): the state %s, want %s", show(r), show(s), show(k.State))
	}
	if !same(p.s, p.k.State) {
		t.Errorf("R5: Do(%s) has changed what it was given", show(r))
	}
	if e != api.OK || want != api.OK {
		return p, e
	}
	return pair{s, k}, e
}

// holdEdit does so with Edit of a message.
func (p pair) holdEdit(t *testing.T, m api.Message) (pair, api.Errno) {
	t.Helper()
	s, e := state.Edit(p.s, m)
	k, want := p.k.take(m)
	if e != want || !same(s, k.State) {
		t.Errorf("P19.4: Edit(%s): %s, %d, want %s, %d", show(m), show(s), e, show(k.State), want)
	}
	if !same(p.s, p.k.State) {
		t.Errorf("R5: Edit(%s) has changed what it was given", show(m))
	}
	if e != api.OK || want != api.OK {
		return p, e
	}
	return pair{s, k}, e
}

// holdRevs does so with Revs, holdDoc with Doc.
func (p pair) holdRevs(t *testing.T, branch int, rev int) {
	t.Helper()
	l, e := state.Revs(p.s, branch, rev)
	wantL, want := p.k.revs(branch, rev)
	if e != want || !sameRevs(l, wantL) {
		t.Errorf("P19.5: Revs(%d, %d): %s, %d, want %s, %d", branch, rev, show(l), e, show(wantL), want)
	}
	if !same(p.s, p.k.State) {
		t.Errorf("R5: Revs(%d, %d) has changed what it was given", branch, rev)
	}
}

func (p pair) holdDoc(t *testing.T, commit int) {
	t.Helper()
	l, e := state.Doc(p.s, commit)
	document, there := p.k.docs[commit]
	want := api.OK
	if !there {
		want = api.ErrStateNone
	}
	if e != want || !slices.Equal(l, runsOf(document)) {
		t.Errorf("P19.2: Doc(%d): %s, %d, want %s, %d", commit, show(l), e, show(runsOf(document)), want)
	}
}

// holdAll asks a state for all that can be read of it.
func (p pair) holdAll(t *testing.T) {
	t.Helper()
	for n := -1; n <= p.s.NextCommit+1; n++ {
		p.holdDoc(t, n)
	}
	for _, b := range p.s.Branches {
		for _, r := range []api.Request{read(b.Name), blame(b.Name), log(b.Name), tip(b.Name)} {
			p.holdDo(t, r)
		}
	}
	for id := -1; id <= p.s.NextBranch; id++ {
		for rev := -1; rev <= 1; rev++ {
			p.holdRevs(t, id, rev)
		}
		if b := p.k.numbered(id); b != nil {
			for rev := range len(b.Log) + 2 {
				p.holdRevs(t, id, rev)
			}
		}
	}
}

// after does requests that must all end well.
func (p pair) after(t *testing.T, l ...api.Request) pair {
	t.Helper()
	for _, r := range l {
		next, e := p.holdDo(t, r)
		if e != api.OK {
			t.Fatalf("P19.3: Do(%s): %d", show(r), e)
		}
		p = next
	}
	return p
}

// behindEdits does so with edits.
func (p pair) behindEdits(t *testing.T, l ...api.Message) pair {
	t.Helper()
	for _, m := range l {
		next, e := p.holdEdit(t, m)
		if e != api.OK {
			t.Fatalf("P19.4: Edit(%s): %d", show(m), e)
		}
		p = next
	}
	return p
}

// answers holds a request's number and error against those that are written out.
func (p pair) answers(t *testing.T, r api.Request, num int, want api.Errno) api.Reply {
	t.Helper()
	s, q, e := state.Do(p.s, r)
	if e != want || q.Num != num {
		t.Errorf("P19.3: Do(%s): %d, %d, want %d, %d", show(r), q.Num, e, num, want)
	}
	if e != api.OK && (!same(s, api.State{}) || !sameReply(q, api.Reply{})) {
		t.Errorf("R3: Do(%s): %s, %s beside the error %d", show(r), show(s), show(q), e)
	}
	p.holdDo(t, r)
	return q
}

// takes holds an edit's error against one that is written out.
func (p pair) takes(t *testing.T, m api.Message, want api.Errno) {
	t.Helper()
	s, e := state.Edit(p.s, m)
	if e != want {
		t.Errorf("P19.4: Edit(%s): %d, want %d", show(m), e, want)
	}
	if e != api.OK && !same(s, api.State{}) {
		t.Errorf("R3: Edit(%s): %s beside the error %d", show(m), show(s), e)
	}
	p.holdEdit(t, m)
}

// reads holds a branch's text against one that is written out.
func (p pair) reads(t *testing.T, name string, want string) {
	t.Helper()
	if _, q, e := state.Do(p.s, read(name)); q.Text != want || e != api.OK {
		t.Errorf("P19.3: %s reads %s, %d, want %s", name, show(q.Text), e, show(want))
	}
}
