package repo_test

import (
	"fmt"
	"reflect"
	"slices"
	"strings"
	"testing"

	"oxbow/api"
	"oxbow/chunks"
	"oxbow/dev"
	"oxbow/gc"
	"oxbow/record"
	"oxbow/repo"
	"oxbow/state"
)

func keep(n int) api.Op        { return api.Op{Kind: api.OpKeep, N: n} }
func gone(n int) api.Op        { return api.Op{Kind: api.OpDelete, N: n} }
func ins(s string) api.Op      { return api.Op{Kind: api.OpInsert, Text: s} }
func ops(l ...api.Op) []api.Op { return l }

func run(client int, seq int, from int, s string) api.Run {
	return api.Run{Origin: api.Origin{Client: client, Seq: seq}, From: from, Text: s}
}

func create(name string) api.Request { return api.Request{Kind: api.ReqCreate, Name: name} }
func load(name string, s string) api.Request {
	return api.Request{Kind: api.ReqImport, Name: name, Text: s}
}
func edit(name string, l ...api.Op) api.Request {
	return api.Request{Kind: api.ReqEdit, Name: name, Delta: l}
}
func fork(name string, num int) api.Request {
	return api.Request{Kind: api.ReqFork, Name: name, Num: num}
}
func mix(name string, other string) api.Request {
	return api.Request{Kind: api.ReqMerge, Name: name, Other: other}
}
func rename(name string, other string) api.Request {
	return api.Request{Kind: api.ReqRename, Name: name, Other: other}
}
func remove(name string) api.Request { return api.Request{Kind: api.ReqDelete, Name: name} }
func read(name string) api.Request   { return api.Request{Kind: api.ReqRead, Name: name} }
func blame(name string) api.Request  { return api.Request{Kind: api.ReqBlame, Name: name} }
func log(name string) api.Request    { return api.Request{Kind: api.ReqLog, Name: name} }
func tip(name string) api.Request    { return api.Request{Kind: api.ReqTip, Name: name} }
func sweep() api.Request             { return api.Request{Kind: api.ReqSweep} }

func sent(client int, seq int, branch int, rev int, l ...api.Op) api.Message {
	return api.Message{Kind: api.MsgEdit, Client: client, Seq: seq, Branch: branch, Rev: rev, Delta: l}
}
func pull(client int, branch int, rev int) api.Message {
	return api.Message{Kind: api.MsgPull, Client: client, Branch: branch, Rev: rev}
}

// show tells what there is in a line, however long it is.
func show(x any) string {
	const most = 500
	s := fmt.Sprintf("%+q", fmt.Sprintf("%+v", x))
	if len(s) > most {
		return fmt.Sprintf("%s.. (%d bytes)", s[:most], len(s))
	}
	return s
}

func long(s string, n int) string { return strings.Repeat(s, n) }

// plain is a copy of a state, down to its last list, in which lists that are empty are nil.
func plain(s api.State) api.State {
	s.Commits, s.Branches, s.Clients = copied(s.Commits), copied(s.Branches), copied(s.Clients)
	for i := range s.Commits {
		c := &s.Commits[i]
		c.Parents, c.Delta, c.Other = copied(c.Parents), copied(c.Delta), copied(c.Other)
	}
	for i := range s.Branches {
		s.Branches[i].Log = copied(s.Branches[i].Log)
	}
	return s
}

func copied[T any](l []T) []T {
	if len(l) == 0 {
		return nil
	}
	return slices.Clone(l)
}

func same(a api.State, b api.State) bool { return reflect.DeepEqual(plain(a), plain(b)) }

func sameReply(a api.Reply, b api.Reply) bool {
	return a.Kind == b.Kind && a.Num == b.Num && a.Text == b.Text && slices.Equal(a.Runs, b.Runs) && slices.Equal(a.Log, b.Log)
}

func sameMessages(a []api.Message, b []api.Message) bool {
	return slices.EqualFunc(a, b, func(x api.Message, y api.Message) bool {
		d, f := x.Delta, y.Delta
		x.Delta, y.Delta = nil, nil
		return reflect.DeepEqual(x, y) && slices.Equal(d, f)
	})
}

// imprint is all that can be told of a device, but for its fuse.
func imprint(d *dev.Dev) string {
	var b strings.Builder
	waiting := d.Waiting()
	b.Grow((d.Sectors() + 2*len(waiting) + 2) * api.Sector)
	fmt.Fprint(&b, waiting, d.Up(), d.Age())
	for at := range d.Sectors() {
		safe, _ := d.Safe(at)
		b.WriteString(safe)
	}
	if len(waiting) > 0 {
		c := d.Copy()
		c.Fuse(-1)
		for _, at := range waiting {
			waits, _ := c.Read(at)
			b.WriteString(waits)
		}
	}
	return b.String()
}

func newDev(t *testing.T, sectors int) *dev.Dev {
	t.Helper()
	d, e := dev.New(sectors)
	if e != api.OK {
		t.Fatalf("D1: New(%d): %d", sectors, e)
	}
	return d
}

func open(t *testing.T, d *dev.Dev) *repo.Repo {
	t.Helper()
	r, e := repo.Open(d)
	if r == nil || e != api.OK {
		t.Fatalf("P22.1: Open: %d", e)
	}
	return r
}

// A bench is a repository on a device, and what it is to be by the chapter's words: its state, and whether a call has answered ErrDown.
type bench struct {
	d    *dev.Dev
	r    *repo.Repo
	s    api.State
	age  int
	lost bool
}

func newBench(t *testing.T, sectors int) *bench {
	t.Helper()
	d := newDev(t, sectors)
	r, e := repo.New(d)
	if r == nil || e != api.OK {
		t.Fatalf("P22.1: New on %d sectors: %d", sectors, e)
	}
	return &bench{d: d, r: r, s: state.New(), age: d.Age()}
}

// holding is a bench on a device that holds a state's pairs.
func holding(t *testing.T, sectors int, s api.State) *bench {
	t.Helper()
	d := newDev(t, sectors)
	put(t, d, pairsOf(t, s), nil)
	return opened(t, d, s)
}

// opened is a bench on a device with a repository of that state.
func opened(t *testing.T, d *dev.Dev, s api.State) *bench {
	t.Helper()
	b := &bench{d: d, r: open(t, d), s: s, age: d.Age()}
	b.holdState(t, "opened")
	return b
}

func pairsOf(t *testing.T, s api.State) []api.Pair {
	t.Helper()
	l, e := record.Pairs(s)
	if e != api.OK {
		t.Fatalf("P15.1: Pairs of %s: %d", show(s), e)
	}
	return l
}

// put writes pairs to the store on a device.
func put(t *testing.T, d *dev.Dev, sets []api.Pair, dels []string) {
	t.Helper()
	k, e := chunks.Open(d)
	if e != api.OK {
		t.Fatalf("C1: Open: %d", e)
	}
	if e := k.Write(sets, dels); e != api.OK {
		t.Fatalf("C3: Write: %d", e)
	}
}

// copy is a bench of its own on a copy of the device, opened anew.
func (b *bench) copy(t *testing.T) *bench {
	t.Helper()
	return opened(t, b.d.Copy(), plain(b.s))
}

// isDown tells whether ErrDown is the answer, and notes that it was.
func (b *bench) isDown() bool {
	b.lost = b.lost || !b.d.Up() || b.d.Age() != b.age
	return b.lost
}

// wantDo is P22.2: on a store on a copy of the device, which is answered, as it is to be behind it.
func (b *bench) wantDo(t *testing.T, q api.Request) (*dev.Dev, api.Reply, api.Errno) {
	t.Helper()
	c := b.d.Copy()
	if b.isDown() {
		return c, api.Reply{}, api.ErrDown
	}
	k := storeOn(t, c)
	if q.Kind == api.ReqSweep {
		left, went := gc.Sweep(b.s)
		if e := b.turn(t, k, left); e != api.OK {
			return c, api.Reply{}, e
		}
		if _, e := k.Sweep(); e != api.OK {
			b.lost = e == api.ErrDown
			return c, api.Reply{}, e
		}
		return c, api.Reply{Kind: 12, Num: went}, api.OK
	}
	s, reply, e := state.Do(b.s, q)
	if e != api.OK {
		return c, api.Reply{}, e
	}
	if e := b.turn(t, k, s); e != api.OK {
		return c, api.Reply{}, e
	}
	return c, reply, api.OK
}

// wantHear is P22.3 likewise.
func (b *bench) wantHear(t *testing.T, m api.Message) (*dev.Dev, []api.Message, api.Errno) {
	t.Helper()
	c := b.d.Copy()
	if b.isDown() {
		return c, nil, api.ErrDown
	}
	switch m.Kind {
	case api.MsgEdit:
		s, e := state.Edit(b.s, m)
		if e == api.ErrStateOld {
			return c, nil, api.OK
		}
		if e != api.OK {
			return c, nil, e
		}
		return c, nil, b.turn(t, storeOn(t, c), s)
	case api.MsgPull:
		revs, e := state.Revs(b.s, m.Branch, m.Rev)
		if e != api.OK {
			return c, nil, e
		}
		if m.Client < 1 || m.Client > 8 {
			return c, nil, api.ErrArg
		}
		var l []api.Message
		for _, x := range revs {
			l = append(l, api.Message{Kind: 3, Branch: m.Branch, Client: m.Client, Rev: x.Rev, Who: x.Client, Seq: x.Seq, Delta: x.Delta})
		}
		return c, l, api.OK
	}
	return c, nil, api.ErrArg
}

// storeOn opens the store on a device on which no write is under way: that takes nothing from a fuse.
func storeOn(t *testing.T, d *dev.Dev) *chunks.Store {
	t.Helper()
	k, e := chunks.Open(d)
	if e != api.OK {
		t.Fatalf("C1: Open: %d", e)
	}
	return k
}

// turn writes what changes to another state, and has it then.
func (b *bench) turn(t *testing.T, k *chunks.Store, to api.State) api.Errno {
	t.Helper()
	sets, dels, e := record.Changes(b.s, to)
	if e != api.OK {
		return api.ErrNoSpace
	}
	if len(sets) > 0 || len(dels) > 0 {
		if e := k.Write(sets, dels); e != api.OK {
			b.lost = e == api.ErrDown
			return e
		}
	}
	b.s = to
	return api.OK
}

// do has a request done, and holds all that comes of it against the words; so does hear with a message.
func (b *bench) do(t *testing.T, q api.Request) (api.Reply, api.Errno) {
	t.Helper()
	was := show(q)
	c, wantReply, want := b.wantDo(t, q)
	reply, e := b.r.Do(q)
	if e != want || !sameReply(reply, wantReply) {
		t.Fatalf("P22.2: Do(%s): %s, %d, want %s, %d", was, show(reply), e, show(wantReply), want)
	}
	if show(q) != was {
		t.Fatalf("R5: Do(%s): the request was changed: %s", was, show(q))
	}
	b.holdState(t, "P22.2: Do("+was+")")
	b.holdDev(t, "P22.2: Do("+was+")", c)
	return reply, e
}

func (b *bench) hear(t *testing.T, m api.Message) ([]api.Message, api.Errno) {
	t.Helper()
	was := show(m)
	c, wantL, want := b.wantHear(t, m)
	l, e := b.r.Hear(m)
	if e != want || !sameMessages(l, wantL) {
		t.Fatalf("P22.3: Hear(%s): %s, %d, want %s, %d", was, show(l), e, show(wantL), want)
	}
	if show(m) != was {
		t.Fatalf("R5: Hear(%s): the message was changed: %s", was, show(m))
	}
	b.holdState(t, "P22.3: Hear("+was+")")
	b.holdDev(t, "P22.3: Hear("+was+")", c)
	return l, e
}

// holdState is P22.4.
func (b *bench) holdState(t *testing.T, what string) {
	t.Helper()
	if s := b.r.State(); !same(s, b.s) {
		t.Fatalf("P22.4: %s: the state is %s, want %s", what, show(s), show(b.s))
	}
}

// holdDev holds that the device is as it is to be: what was not to be written was not.
func (b *bench) holdDev(t *testing.T, what string, want *dev.Dev) {
	t.Helper()
	if imprint(b.d) != imprint(want) {
		t.Fatalf("%s: the device is not as it is to be: %v wait, want %v", what, b.d.Waiting(), want.Waiting())
	}
}

// after has requests and messages done that must all end well.
func (b *bench) after(t *testing.T, l ...any) *bench {
	t.Helper()
	for _, x := range l {
		if e := b.any(t, x); e != api.OK {
			t.Fatalf("P22.2: %s: %d", show(x), e)
		}
	}
	return b
}

// any has a request or a message done.
func (b *bench) any(t *testing.T, x any) api.Errno {
	t.Helper()
	var e api.Errno
	switch x := x.(type) {
	case api.Request:
		_, e = b.do(t, x)
	case api.Message:
		_, e = b.hear(t, x)
	}
	return e
}

// answers holds a request's number and error against those that are written out.
func (b *bench) answers(t *testing.T, q api.Request, num int, want api.Errno) api.Reply {
	t.Helper()
	reply, e := b.do(t, q)
	if e != want || reply.Num != num || e == api.OK && reply.Kind != q.Kind {
		t.Errorf("P22.2: Do(%s): %s, %d, want %d, %d", show(q), show(reply), e, num, want)
	}
	if e != api.OK && !sameReply(reply, api.Reply{}) {
		t.Errorf("R3: Do(%s): %s beside the error %d", show(q), show(reply), e)
	}
	return reply
}

// hears holds a message's error, and what comes of it, against those that are written out.
func (b *bench) hears(t *testing.T, m api.Message, want api.Errno, wantL ...api.Message) {
	t.Helper()
	l, e := b.hear(t, m)
	if e != want || !sameMessages(l, wantL) {
		t.Errorf("P22.3: Hear(%s): %s, %d, want %s, %d", show(m), show(l), e, show(wantL), want)
	}
}

// reads holds a branch's text against one that is written out.
func (b *bench) reads(t *testing.T, name string, want string) {
	t.Helper()
	if reply, e := b.do(t, read(name)); reply.Text != want || e != api.OK {
		t.Errorf("P22.2: %s reads %s, %d, want %s", name, show(reply.Text), e, show(want))
	}
}

// some is a repository with branches of all sorts: a (its Id is 1) has the commits 1, 2, 4, 7, 8; f (2) is deleted, and its commit 3 with no branch; b (3) has 2, 5, and c (4) has 6.
func some(t *testing.T, sectors int) *bench {
	t.Helper()
	b := newBench(t, sectors).after(t, create("a"), load("a", "abc"), fork("f", 2), load("f", "gone"), remove("f"),
		fork("b", 2), load("a", "axc"), edit("b", keep(3), ins("d")), create("c"),
		sent(3, 1, 1, 1, ins("1"), keep(3)), sent(3, 2, 1, 3, keep(4), ins("2")))
	b.reads(t, "a", "1axc2")
	b.reads(t, "b", "abcd")
	b.reads(t, "c", "")
	return b
}
