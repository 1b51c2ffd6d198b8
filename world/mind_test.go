package world_test

import (
	"fmt"
	"reflect"
	"slices"
	"strings"
	"testing"

	"oxbow/api"
	"oxbow/client"
	"oxbow/copies"
	"oxbow/dev"
	"oxbow/gc"
	"oxbow/shelf"
	"oxbow/state"
	"oxbow/wire"
	"oxbow/world"
)

func keep(n int) api.Op        { return api.Op{Kind: api.OpKeep, N: n} }
func gone(n int) api.Op        { return api.Op{Kind: api.OpDelete, N: n} }
func ins(s string) api.Op      { return api.Op{Kind: api.OpInsert, Text: s} }
func ops(l ...api.Op) []api.Op { return l }

func create(name string) api.Act { return ask(api.Request{Kind: api.ReqCreate, Name: name}) }
func load(name string, s string) api.Act {
	return ask(api.Request{Kind: api.ReqImport, Name: name, Text: s})
}
func write(name string, l ...api.Op) api.Act {
	return ask(api.Request{Kind: api.ReqEdit, Name: name, Delta: l})
}
func fork(name string, num int) api.Act {
	return ask(api.Request{Kind: api.ReqFork, Name: name, Num: num})
}
func mix(name string, other string) api.Act {
	return ask(api.Request{Kind: api.ReqMerge, Name: name, Other: other})
}
func rename(name string, other string) api.Act {
	return ask(api.Request{Kind: api.ReqRename, Name: name, Other: other})
}
func remove(name string) api.Act { return ask(api.Request{Kind: api.ReqDelete, Name: name}) }
func read(name string) api.Act   { return ask(api.Request{Kind: api.ReqRead, Name: name}) }
func blame(name string) api.Act  { return ask(api.Request{Kind: api.ReqBlame, Name: name}) }
func sweep() api.Act             { return ask(api.Request{Kind: api.ReqSweep}) }

func ask(q api.Request) api.Act { return api.Act{Kind: api.DoRequest, Req: q} }
func join(party int, name string) api.Act {
	return api.Act{Kind: api.DoJoin, Party: party, Req: api.Request{Name: name}}
}
func edit(party int, l ...api.Op) api.Act {
	return api.Act{Kind: api.DoEdit, Party: party, Req: api.Request{Delta: l}}
}
func tick(party int) api.Act        { return api.Act{Kind: api.DoTick, Party: party} }
func deliver(n int) api.Act         { return api.Act{Kind: api.DoDeliver, N: n} }
func drop(n int) api.Act            { return api.Act{Kind: api.DoDrop, N: n} }
func double(n int) api.Act          { return api.Act{Kind: api.DoDouble, N: n} }
func fuse(party int, n int) api.Act { return api.Act{Kind: api.DoFuse, Party: party, N: n} }
func crash(party int, mask string) api.Act {
	return api.Act{Kind: api.DoCrash, Party: party, Req: api.Request{Text: mask}}
}
func bringUp(party int) api.Act { return api.Act{Kind: api.DoRecover, Party: party} }
func round() api.Act            { return api.Act{Kind: api.DoRound} }

func long(s string, n int) string { return strings.Repeat(s, n) }

// show tells what there is in a line, however long it is.
func show(x any) string {
	const most = 700
	s := fmt.Sprintf("%+q", fmt.Sprintf("%+v", x))
	if len(s) > most {
		return fmt.Sprintf("%s.. (%d bytes)", s[:most], len(s))
	}
	return s
}

// plain is a copy of anything that may be answered, in which lists that are empty are nil.
func plain(v reflect.Value) reflect.Value {
	out := reflect.New(v.Type()).Elem()
	switch v.Kind() {
	case reflect.Slice:
		for i := range v.Len() {
			out = reflect.Append(out, plain(v.Index(i)))
		}
	case reflect.Struct:
		for i := range v.NumField() {
			out.Field(i).Set(plain(v.Field(i)))
		}
	default:
		out.Set(v)
	}
	return out
}

func same[T any](a T, b T) bool {
	return reflect.DeepEqual(plain(reflect.ValueOf(a)).Interface(), plain(reflect.ValueOf(b)).Interface())
}

// A holding is what a party holds: the server a state, a client an editor, if it has joined.
type holding struct {
	state  api.State
	joined bool
	editor api.Editor
}

func (h holding) same(o holding) bool {
	return same(h.state, o.state) && h.joined == o.joined && same(h.editor, o.editor)
}

// A figure is a party as the chapter speaks of it.
type figure struct {
	up    bool
	dead  bool      // its device is down
	fused bool      // its device has a fuse: how much of it is left, nobody knows
	has   holding   // in memory, while it is up
	found []holding // what may be found when it is recovered
}

// A mind is the chapter's world without a device. When a fuse blows it cannot know: it looks, and then holds the world to that.
type mind struct {
	figures []*figure
	net     []api.Letter
	room    int  // how long a text a client's shelf takes
	tight   bool // the server may have no room
}

func newMind(clients int, room int) *mind {
	m := &mind{room: room}
	for range clients + 1 {
		m.figures = append(m.figures, &figure{up: true})
	}
	m.figures[0].settle(holding{state: state.New()})
	for _, f := range m.figures[1:] {
		f.settle(holding{})
	}
	return m
}

// settle has a figure be something, safely.
func (f *figure) settle(h holding) { f.has, f.found = h, []holding{h} }

// An outcome is what an act is to answer, and what it is to leave. Whoever is to hold something else then writes that.
type outcome struct {
	reply  api.Reply
	e      api.Errno
	writer int // -1: nobody
	then   holding
	sends  []api.Letter
}

func refused(e api.Errno) outcome  { return outcome{e: e, writer: -1} }
func nothing() outcome             { return outcome{writer: -1} }
func becomes(then holding) outcome { return outcome{then: then} }
func (o outcome) saying(reply api.Reply) outcome {
	if o.e == api.OK {
		o.reply = reply
	}
	return o
}

func (m *mind) isClient(n int) bool { return 1 <= n && n < len(m.figures) }

// outcome is what an act is to come to, but for DoRecover and DoRound.
func (m *mind) outcome(a api.Act) outcome {
	withClient := a.Kind == api.DoJoin || a.Kind == api.DoEdit || a.Kind == api.DoTick
	withParty := a.Kind == api.DoFuse || a.Kind == api.DoCrash || a.Kind == api.DoRecover
	if a.Kind < 1 || a.Kind > 11 || withClient && !m.isClient(a.Party) || withParty && a.Party != 0 && !m.isClient(a.Party) {
		return refused(api.ErrWorldOp)
	}
	switch a.Kind {
	case api.DoRequest:
		return m.request(a.Req)
	case api.DoJoin:
		return m.join(a.Party, a.Req.Name)
	case api.DoEdit:
		return m.edit(a.Party, a.Req.Delta)
	case api.DoTick:
		return m.tick(a.Party)
	case api.DoDeliver:
		return m.deliver(a.N)
	case api.DoDrop:
		if a.N < 0 || a.N >= len(m.net) {
			return refused(api.ErrNetNone)
		}
	case api.DoDouble:
		if a.N < 0 || a.N >= len(m.net) {
			return refused(api.ErrNetNone)
		}
		if len(m.net) >= 3000 {
			return refused(api.ErrNetFull)
		}
		return outcome{writer: -1, sends: []api.Letter{m.net[a.N]}}
	case api.DoFuse:
		if a.N < -1 {
			return refused(api.ErrArg)
		}
	}
	return nothing()
}

func (m *mind) request(q api.Request) outcome {
	f := m.figures[0]
	if !f.up {
		return refused(api.ErrDown)
	}
	if q.Kind == api.ReqSweep {
		s, n := gc.Sweep(f.has.state)
		return becomes(holding{state: s}).saying(api.Reply{Kind: q.Kind, Num: n})
	}
	s, reply, e := state.Do(f.has.state, q)
	if e != api.OK {
		return refused(e)
	}
	if same(s, f.has.state) {
		return nothing().saying(reply)
	}
	return becomes(holding{state: s}).saying(reply)
}

func (m *mind) join(party int, name string) outcome {
	f, server := m.figures[party], m.figures[0]
	if !f.up || !server.up {
		return refused(api.ErrDown)
	}
	if f.has.joined {
		return refused(api.ErrWorldOp)
	}
	_, reply, e := state.Do(server.has.state, api.Request{Kind: api.ReqRead, Name: name})
	if e != api.OK {
		return refused(e)
	}
	for _, b := range server.has.state.Branches {
		if b.Name == name {
			editor := api.Editor{Client: party, Branch: b.Id, Rev: len(b.Log) - 1, Text: reply.Text}
			return m.puts(editor).saying(api.Reply{Num: editor.Rev})
		}
	}
	panic("no branch, but it is read")
}

// work tells what stands against a client's work.
func (f *figure) work() api.Errno {
	if !f.up {
		return api.ErrDown
	}
	if !f.has.joined {
		return api.ErrWorldOp
	}
	return api.OK
}

func (m *mind) edit(party int, d []api.Op) outcome {
	f := m.figures[party]
	if e := f.work(); e != api.OK {
		return refused(e)
	}
	editor, e := client.Edit(f.has.editor, d)
	if e != api.OK {
		return refused(e)
	}
	return m.puts(editor)
}

func (m *mind) tick(party int) outcome {
	f := m.figures[party]
	if e := f.work(); e != api.OK {
		return refused(e)
	}
	return outcome{writer: -1, sends: letters(0, client.Says(f.has.editor))}
}

// letters are messages as they go under way, to a party, or, if that is -1, to the clients that they name.
func letters(to int, l []api.Message) []api.Letter {
	var sent []api.Letter
	for _, x := range l {
		form, e := wire.Encode(x)
		if e != api.OK {
			panic("a message has no form")
		}
		if to < 0 {
			sent = append(sent, api.Letter{To: x.Client, Text: form})
		} else {
			sent = append(sent, api.Letter{To: to, Text: form})
		}
	}
	return sent
}

func (m *mind) deliver(n int) outcome {
	if n < 0 || n >= len(m.net) {
		return refused(api.ErrNetNone)
	}
	to := m.net[n].To
	f := m.figures[to]
	if !f.up {
		return refused(api.ErrDown)
	}
	if to > 0 && !f.has.joined {
		return refused(api.ErrWorldOp)
	}
	x, e := wire.Decode(m.net[n].Text)
	if e != api.OK {
		return refused(e)
	}
	if to == 0 {
		return m.hear(x)
	}
	editor, e := client.Next(f.has.editor, x)
	if e != api.OK {
		return refused(e)
	}
	return m.puts(editor)
}

// puts is that a client puts an editor on its shelf.
func (m *mind) puts(editor api.Editor) outcome {
	form, e := client.Encode(editor)
	if e != api.OK {
		return refused(e)
	}
	if len(form) > m.room {
		return refused(api.ErrNoSpace)
	}
	return outcome{writer: editor.Client, then: holding{joined: true, editor: editor}}
}

func (m *mind) hear(x api.Message) outcome {
	s := m.figures[0].has.state
	if x.Kind == api.MsgEdit {
		after, e := state.Edit(s, x)
		if e == api.ErrStateOld {
			return nothing()
		}
		if e != api.OK {
			return refused(e)
		}
		return becomes(holding{state: after})
	}
	if x.Kind != api.MsgPull {
		return refused(api.ErrArg)
	}
	revs, e := state.Revs(s, x.Branch, x.Rev)
	if e != api.OK {
		return refused(e)
	}
	var l []api.Message
	for _, v := range revs {
		l = append(l, api.Message{Kind: api.MsgNext, Branch: x.Branch, Client: x.Client, Rev: v.Rev, Who: v.Client, Seq: v.Seq, Delta: v.Delta})
	}
	return outcome{writer: -1, sends: letters(-1, l)}
}

// A town is a world and a mind that holds it to the chapter.
type town struct {
	t *testing.T
	w *world.World
	m *mind
}

func newTown(t *testing.T, sectors int, shelf int, clients int) *town {
	t.Helper()
	w, e := world.New(api.Config{Sectors: sectors, Shelf: shelf, Clients: clients})
	if w == nil || e != api.OK {
		t.Fatalf("P23.1: New with %d, %d, %d: %d", sectors, shelf, clients, e)
	}
	x := &town{t, w, newMind(clients, roomOf(t, shelf))}
	x.look("P23.1: a new one")
	return x
}

// roomOf is how long a text a shelf of so many sectors takes.
func roomOf(t *testing.T, sectors int) int {
	t.Helper()
	d, _ := dev.New(sectors)
	s, e := shelf.New(d)
	if e != api.OK {
		t.Fatalf("S1: a shelf of %d sectors: %d", sectors, e)
	}
	return s.Room()
}

// do does an act, and holds what it answers and all that can be seen behind it to the chapter.
func (x *town) do(a api.Act) (api.Reply, api.Errno) {
	x.t.Helper()
	if a.Kind == api.DoRound {
		return x.round(a)
	}
	want := x.m.outcome(a)
	reply, e := x.w.Do(a)
	what := fmt.Sprintf("P23.2: %s", show(a))
	if a.Kind == api.DoRecover && want.e == api.OK {
		x.recovered(what, a.Party, reply, e)
	} else {
		x.answered(what, want, reply, e)
		x.m.always(a, want)
	}
	x.look(what)
	return reply, e
}

// answered holds an answer against the outcome that was to be, and has the mind follow.
func (x *town) answered(what string, want outcome, reply api.Reply, e api.Errno) {
	x.t.Helper()
	if e != api.OK && !same(reply, api.Reply{}) {
		x.t.Errorf("R3: %s: %s with %d", what, show(reply), e)
	}
	if want.e != api.OK || want.writer < 0 {
		if e != want.e || e == api.OK && !same(reply, want.reply) {
			x.t.Fatalf("%s: %s, %d, want %s, %d", what, show(reply), e, show(want.reply), want.e)
		}
		return
	}
	f := x.m.figures[want.writer]
	switch {
	case e == api.OK && same(reply, want.reply):
		f.settle(want.then)
		if f.fused && !x.w.Up(want.writer) {
			f.up, f.dead = false, true
		}
	case e == api.ErrDown && f.fused:
		f.found = append(f.found, want.then)
		f.up, f.dead = false, true
	case e == api.ErrNoSpace && x.m.tight && want.writer == 0:
		if want.reply.Kind == api.ReqSweep && same(x.w.State(), want.then.state) {
			f.settle(want.then)
		}
	default:
		x.t.Fatalf("%s: %s, %d, want %s, %d", what, show(reply), e, show(want.reply), want.e)
	}
}

// always does what an act does whatever its writer's device does.
func (m *mind) always(a api.Act, o outcome) {
	if (a.Kind == api.DoDeliver || a.Kind == api.DoDrop) && o.e != api.ErrNetNone {
		m.net = slices.Delete(slices.Clone(m.net), a.N, a.N+1)
	}
	for _, l := range o.sends {
		if len(m.net) < 3000 {
			m.net = append(m.net, l)
		}
	}
	if o.e != api.OK {
		return
	}
	switch a.Kind {
	case api.DoFuse:
		f := m.figures[a.Party]
		f.fused, f.dead = a.N > 0, a.N == 0
		f.up = f.up && !f.dead
	case api.DoCrash:
		f := m.figures[a.Party]
		f.fused, f.dead, f.up = false, false, false
	}
}

// recovered holds what a recovery comes to.
func (x *town) recovered(what string, party int, reply api.Reply, e api.Errno) {
	x.t.Helper()
	f := x.m.figures[party]
	if !same(reply, api.Reply{}) {
		x.t.Errorf("%s: %s", what, show(reply))
	}
	switch {
	case f.up:
		if e != api.ErrArg {
			x.t.Fatalf("%s: one that is up: %d", what, e)
		}
	case f.dead:
		if e != api.ErrDown {
			x.t.Fatalf("%s: its device is down: %d", what, e)
		}
	case e == api.ErrDown && f.fused:
		f.dead = true
	case e == api.OK:
		f.up = true
		now := x.sees(party)
		if !slices.ContainsFunc(f.found, now.same) {
			x.t.Fatalf("P2: %s: found is %s, neither of %s", what, show(now), show(f.found))
		}
		f.settle(now)
	default:
		x.t.Fatalf("%s: %d", what, e)
	}
}

// sees is what a party that is up is seen to hold.
func (x *town) sees(party int) holding {
	if party == 0 {
		return holding{state: x.w.State()}
	}
	for _, e := range x.w.Editors() {
		if e.Client == party {
			return holding{joined: true, editor: e}
		}
	}
	return holding{}
}

// round holds a round against its parts, which is possible where no fuse may blow on the way.
func (x *town) round(a api.Act) (api.Reply, api.Errno) {
	x.t.Helper()
	for _, f := range x.m.figures {
		if f.fused && f.up {
			x.t.Fatal("a round with a fuse: nobody can tell where it blows")
		}
	}
	follow := func(a api.Act) {
		o := x.m.outcome(a)
		if o.e == api.OK && o.writer >= 0 {
			x.m.figures[o.writer].settle(o.then)
		}
		x.m.always(a, o)
	}
	for n := 1; n < len(x.m.figures); n++ {
		follow(tick(n))
	}
	for len(x.m.net) > 0 {
		follow(deliver(0))
	}
	reply, e := x.w.Do(a)
	if e != api.OK || !same(reply, api.Reply{}) {
		x.t.Fatalf("P23.2: a round: %s, %d", show(reply), e)
	}
	x.look("P23.2: a round")
	return reply, e
}

// look holds all that can be seen to the mind.
func (x *town) look(what string) {
	x.t.Helper()
	var s api.State
	var editors []api.Editor
	for n, f := range x.m.figures {
		if got := x.w.Up(n); got != f.up {
			x.t.Fatalf("%s: P23.3: Up(%d) = %t, want %t", what, n, got, f.up)
		}
		if n == 0 && f.up {
			s = f.has.state
		}
		if n > 0 && f.up && f.has.joined {
			editors = append(editors, f.has.editor)
		}
	}
	if x.w.Up(-1) || x.w.Up(len(x.m.figures)) {
		x.t.Fatalf("%s: P23.3: one is up that is none", what)
	}
	if got := x.w.State(); !same(got, s) {
		x.t.Fatalf("%s: P23.3: State %s, want %s", what, show(got), show(s))
	}
	if got := x.w.Editors(); !same(got, editors) {
		x.t.Fatalf("%s: P23.3: Editors %s, want %s", what, show(got), show(editors))
	}
	if got := x.w.Net(); !slices.Equal(got, x.m.net) {
		x.t.Fatalf("%s: P23.3: Net %s, want %s", what, show(got), show(x.m.net))
	}
}

// want does an act, which is to answer an error, or none.
func (x *town) want(a api.Act, e api.Errno) api.Reply {
	x.t.Helper()
	reply, got := x.do(a)
	if got != e {
		x.t.Fatalf("P23.2: %s: %d, want %d", show(a), got, e)
	}
	return reply
}

// after does acts, none of which is to be refused.
func (x *town) after(l ...api.Act) *town {
	x.t.Helper()
	for _, a := range l {
		x.want(a, api.OK)
	}
	return x
}

func (x *town) reads(name string, s string) {
	x.t.Helper()
	if r := x.want(read(name), api.OK); r.Text != s {
		x.t.Errorf("%s reads %s, want %s", name, show(r.Text), show(s))
	}
}

// editor is the one of a client that is up and has joined.
func (x *town) editor(party int) api.Editor {
	x.t.Helper()
	h := x.sees(party)
	if !h.joined {
		x.t.Fatalf("the client %d is not to be seen", party)
	}
	return copies.Editor(h.editor)
}

func (x *town) shows(party int, s string) {
	x.t.Helper()
	if e := x.editor(party); e.Text != s {
		x.t.Errorf("the client %d shows %s, want %s", party, show(e.Text), show(s))
	}
}
