package world_test

import (
	"fmt"
	"math"
	"slices"
	"testing"

	"oxbow/api"
	"oxbow/dev"
	"oxbow/repo"
	"oxbow/shelf"
	"oxbow/state"
	"oxbow/wire"
	"oxbow/world"
)

// busy is a world with the branch a, that has the text abc, and with so many clients on it.
func busy(t *testing.T, clients int) *town {
	t.Helper()
	x := newTown(t, 600, 100, clients).after(create("a"), load("a", "abc"))
	for n := 1; n <= clients; n++ {
		x.after(join(n, "a"))
	}
	return x
}

func TestNewRefuses(t *testing.T) {
	for _, c := range []api.Config{
		{Sectors: 600, Shelf: 100, Clients: -1},
		{Sectors: 600, Shelf: 100, Clients: 9},
		{Sectors: 600, Shelf: 100, Clients: math.MinInt},
		{Sectors: 600, Shelf: 100, Clients: math.MaxInt},
		{Sectors: 7, Shelf: 100, Clients: 1},
		{Sectors: 8193, Shelf: 100, Clients: 1},
		{Sectors: 0, Shelf: 100, Clients: 1},
		{Sectors: -1, Shelf: 100, Clients: 1},
		{Sectors: math.MinInt, Shelf: 100, Clients: 1},
		{Sectors: math.MaxInt, Shelf: 100, Clients: 1},
		{Sectors: 600, Shelf: 7, Clients: 1},
		{Sectors: 600, Shelf: 8193, Clients: 1},
		{Sectors: 600, Shelf: -1, Clients: 1},
		{Sectors: 600, Shelf: math.MinInt, Clients: 1},
		{Sectors: 600, Shelf: math.MaxInt, Clients: 1},
		{Sectors: 600, Shelf: 7, Clients: 0}, // nobody has a shelf, but it is none
		{Sectors: 600, Shelf: 0, Clients: 0},
		{Sectors: 8, Shelf: 7, Clients: 1}, // of a repository that has no room nobody asks yet
		{Sectors: 8, Shelf: 100, Clients: 9},
		{},
	} {
		if w, e := world.New(c); w != nil || e != api.ErrWorldConfig {
			t.Errorf("P23.1: %+v: %v, %d", c, w != nil, e)
		}
	}
}

// TestNewOnAllSizes: what a repository and a shelf answer on a device of that size, a world answers.
func TestNewOnAllSizes(t *testing.T) {
	counts := map[api.Errno]int{}
	for _, sectors := range append(upTo(8, 120), 256, 8191, 8192) {
		d, _ := dev.New(sectors)
		_, want := repo.New(d)
		counts[want]++
		for _, clients := range []int{0, 1, 8} {
			w, e := world.New(api.Config{Sectors: sectors, Shelf: 8, Clients: clients})
			if e != want || (w == nil) != (e != api.OK) {
				t.Errorf("P23.1: %d sectors: %d, want %d", sectors, e, want)
			}
		}
	}
	if counts[api.OK] < 50 || counts[api.ErrNoSpace] < 20 || len(counts) != 2 {
		t.Errorf("P23.1: the sizes answer %v", counts)
	}
	for _, sectors := range append(upTo(8, 40), 8191, 8192) {
		d, _ := dev.New(sectors)
		_, want := shelf.New(d)
		if w, e := world.New(api.Config{Sectors: 600, Shelf: sectors, Clients: 8}); e != want || (w == nil) != (e != api.OK) {
			t.Errorf("P23.1: shelves of %d sectors: %d, want %d", sectors, e, want)
		}
	}
}

func upTo(from int, to int) []int {
	var l []int
	for n := from; n <= to; n++ {
		l = append(l, n)
	}
	return l
}

// TestNew: all are up, nobody has joined, nothing is under way.
func TestNew(t *testing.T) {
	for clients := range 9 {
		x := newTown(t, 600, 100, clients)
		for n := -2; n < 12; n++ {
			if got := x.w.Up(n); got != (n >= 0 && n <= clients) {
				t.Errorf("P23.1, P23.3: of %d clients: Up(%d) = %t", clients, n, got)
			}
		}
		if x.w.Up(math.MinInt) || x.w.Up(math.MaxInt) {
			t.Error("P23.3: one is up that is none")
		}
		if s := x.w.State(); !same(s, state.New()) || len(x.w.Editors()) != 0 || len(x.w.Net()) != 0 {
			t.Errorf("P23.1: %s, %s, %s", show(s), show(x.w.Editors()), show(x.w.Net()))
		}
		for n := 1; n <= clients; n++ {
			x.want(tick(n), api.ErrWorldOp)
		}
		x.after(create("a"), load("a", "abc"))
		for n := 1; n <= clients; n++ {
			x.after(join(n, "a"), edit(n, ins("x"), keep(3)))
		}
		x.after(round(), round())
		x.reads("a", long("x", clients)+"abc")
	}
}

// TestWhoMayBeNamed: each Kind with each party, and Kinds that are none.
func TestWhoMayBeNamed(t *testing.T) {
	parties := []int{math.MinInt, -1, 0, 1, 2, 3, 8, 9, math.MaxInt}
	for _, kind := range []int{math.MinInt, -1, 0, 12, 13, math.MaxInt} {
		x := busy(t, 2)
		for _, party := range parties {
			x.want(api.Act{Kind: kind, Party: party, Req: api.Request{Kind: api.ReqRead, Name: "a"}}, api.ErrWorldOp)
		}
	}
	for kind := 1; kind <= 11; kind++ {
		for _, party := range parties {
			x := busy(t, 2).after(tick(1))
			is := map[int][]int{
				api.DoJoin: {1, 2}, api.DoEdit: {1, 2}, api.DoTick: {1, 2},
				api.DoFuse: {0, 1, 2}, api.DoCrash: {0, 1, 2}, api.DoRecover: {0, 1, 2},
			}[kind]
			a := api.Act{Kind: kind, Party: party, Req: api.Request{Kind: api.ReqRead, Name: "a", Delta: ops(keep(3))}}
			want := api.OK
			switch {
			case is != nil && !slices.Contains(is, party):
				want = api.ErrWorldOp
			case kind == api.DoJoin:
				want = api.ErrWorldOp // all have joined
			case kind == api.DoRecover:
				want = api.ErrArg // all are up
			}
			x.want(a, want)
			// Ahead of all else: with nobody up it is the same.
			if want == api.ErrWorldOp && kind != api.DoJoin {
				x.after(crash(0, ""), crash(1, ""), crash(2, "")).want(a, api.ErrWorldOp)
			}
		}
	}
}

func TestNobody(t *testing.T) {
	x := newTown(t, 600, 100, 0)
	for _, party := range []int{-1, 0, 1} {
		for _, kind := range []int{api.DoJoin, api.DoEdit, api.DoTick} {
			x.want(api.Act{Kind: kind, Party: party, Req: api.Request{Name: "a"}}, api.ErrWorldOp)
		}
	}
	for _, kind := range []int{api.DoFuse, api.DoCrash, api.DoRecover} {
		x.want(api.Act{Kind: kind, Party: 1}, api.ErrWorldOp)
	}
	x.after(create("a"), round(), crash(0, ""), round(), bringUp(0), load("a", "x"))
	x.reads("a", "x")
}

// TestRequests: what a repository answers, a world answers.
func TestRequests(t *testing.T) {
	x := newTown(t, 600, 100, 1)
	for _, c := range []struct {
		a    api.Act
		num  int
		text string
		e    api.Errno
	}{
		{create("a"), 1, "", api.OK},
		{create("a"), 0, "", api.ErrStateTwice},
		{create("A"), 0, "", api.ErrStateName},
		{load("a", "abc"), 2, "", api.OK},
		{load("b", "abc"), 0, "", api.ErrStateNone},
		{load("a", "\xff"), 0, "", api.ErrText},
		{load("a", long("é", 1001)), 0, "", api.ErrStateTooLong},
		{write("a", keep(2)), 0, "", api.ErrDeltaLength},
		{write("a", keep(0)), 0, "", api.ErrDeltaForm},
		{write("a", keep(3), ins("!")), 3, "", api.OK},
		{fork("b", 2), 2, "", api.OK},
		{fork("c", 9), 0, "", api.ErrStateNone},
		{read("a"), 3, "abc!", api.OK},
		{read("b"), 2, "abc", api.OK},
		{mix("b", "a"), 4, "", api.OK},
		{rename("b", "z"), 2, "", api.OK},
		{remove("z"), 2, "", api.OK},
		{sweep(), 1, "", api.OK},
		{sweep(), 0, "", api.OK},
		{ask(api.Request{Kind: 13, Name: "a"}), 0, "", api.ErrArg},
		{ask(api.Request{}), 0, "", api.ErrArg},
		{ask(api.Request{Kind: api.ReqTip, Name: "a"}), 3, "", api.OK},
	} {
		if r := x.want(c.a, c.e); r.Num != c.num || r.Text != c.text || c.e == api.OK && r.Kind != c.a.Req.Kind {
			t.Errorf("P23.2: %s: %s", show(c.a), show(r))
		}
	}
	if r := x.want(blame("a"), api.OK); !slices.Equal(r.Runs, []api.Run{{Origin: api.Origin{Seq: 2}, Text: "abc"}, {Origin: api.Origin{Seq: 3}, Text: "!"}}) {
		t.Errorf("P23.2: %s", show(r))
	}
	if r := x.want(ask(api.Request{Kind: api.ReqLog, Name: "a"}), api.OK); !slices.Equal(r.Log, []int{1, 2, 3}) {
		t.Errorf("P23.2: %s", show(r))
	}
	x.after(crash(0, ""))
	for _, a := range []api.Act{read("a"), create("b"), create("A"), sweep(), ask(api.Request{Kind: 13})} {
		x.want(a, api.ErrDown)
	}
}

func TestJoin(t *testing.T) {
	x := newTown(t, 600, 100, 3).after(create("a"), load("a", "abc"), load("a", "abcd"), fork("b", 2), create("e"))
	for name, e := range map[string]api.Errno{"c": api.ErrStateNone, "": api.ErrStateName, "A": api.ErrStateName, long("a", 13): api.ErrStateName, long("a", 12): api.ErrStateNone} {
		x.want(join(1, name), e)
	}
	for n, c := range []struct {
		name string
		rev  int
		want api.Editor
	}{
		{"a", 2, api.Editor{Client: 1, Branch: 1, Rev: 2, Text: "abcd"}},
		{"b", 0, api.Editor{Client: 2, Branch: 2, Text: "abc"}},
		{"e", 0, api.Editor{Client: 3, Branch: 3}},
	} {
		if r := x.want(join(n+1, c.name), api.OK); !same(r, api.Reply{Num: c.rev}) {
			t.Errorf("P23.2: join %s: %s", c.name, show(r))
		}
		if e := x.editor(n + 1); !same(e, c.want) {
			t.Errorf("P23.2: join %s: %s", c.name, show(e))
		}
	}
	// Whoever has joined has, whatever it would join now.
	for _, name := range []string{"a", "b", "c", ""} {
		x.want(join(1, name), api.ErrWorldOp)
	}
	x.after(crash(1, "")).want(join(1, "a"), api.ErrDown)
	x.after(bringUp(1)).want(join(1, "a"), api.ErrWorldOp)
	x.after(remove("a")).want(join(1, "b"), api.ErrWorldOp)
}

// TestJoinOfThoseThatAreDown: ErrDown comes ahead of all but ErrWorldOp for a party that is none.
func TestJoinOfThoseThatAreDown(t *testing.T) {
	x := newTown(t, 600, 100, 2).after(create("a"), join(2, "a"), crash(1, ""))
	x.want(join(1, "a"), api.ErrDown)
	x.want(join(1, ""), api.ErrDown)
	x.after(crash(0, ""))
	x.want(join(1, "a"), api.ErrDown)
	x.want(join(2, "a"), api.ErrDown)
	x.after(bringUp(1))
	x.want(join(1, "a"), api.ErrDown)
	x.want(join(3, "a"), api.ErrWorldOp)
	x.after(bringUp(0), join(1, "a"))
}

// TestJoinWithoutRoom: what has no room on its shelf does not join, and may do so later.
func TestJoinWithoutRoom(t *testing.T) {
	room := roomOf(t, 12) // more than 127, and far less than 900
	x := newTown(t, 600, 12, 1).after(create("a"), load("a", long("x", 900)))
	for range 2 {
		x.want(join(1, "a"), api.ErrNoSpace)
		x.want(edit(1, keep(900)), api.ErrWorldOp)
		x.want(join(1, "b"), api.ErrStateNone)
		x.after(crash(1, "\x01\x01\x01"), bringUp(1))
	}
	// The form of an editor: a byte for each of five numbers, two for the text's length.
	x.after(load("a", long("x", room-6)))
	x.want(join(1, "a"), api.ErrNoSpace)
	x.after(load("a", long("x", room-7)), join(1, "a"))
	x.want(edit(1, ins("y"), keep(room-7)), api.ErrNoSpace)
	x.shows(1, long("x", room-7))
	x.after(crash(1, ""), bringUp(1))
	x.shows(1, long("x", room-7))
}

func TestEdit(t *testing.T) {
	x := newTown(t, 600, 100, 2).after(create("a"), load("a", "abc"), join(1, "a"))
	x.want(edit(2, keep(3)), api.ErrWorldOp)
	x.want(edit(2, keep(0)), api.ErrWorldOp)
	x.want(edit(1, keep(0)), api.ErrDeltaForm)
	x.want(edit(1, keep(2)), api.ErrDeltaLength)
	x.want(edit(1, keep(3), ins(long("x", 998))), api.ErrDeltaLength)
	x.want(edit(1), api.ErrDeltaLength)
	x.after(edit(1, keep(1), ins("1"), keep(1), keep(1)))
	want := api.Editor{Client: 1, Branch: 1, Rev: 1, Text: "a1bc", Seq: 1, Pending: []api.Edit{{Seq: 1, Delta: ops(keep(1), ins("1"), keep(2))}}}
	if e := x.editor(1); !same(e, want) {
		t.Errorf("P23.2: %s, want %s", show(e), show(want))
	}
	x.reads("a", "abc")
	// Without the server, too.
	x.after(crash(0, ""))
	for n := 2; n <= 8; n++ {
		x.after(edit(1, keep(2+n), ins("!")))
	}
	x.want(edit(1, keep(2), ins("!"), keep(8)), api.ErrDeltaLength)
	x.want(edit(1, keep(11)), api.ErrClientFull)
	x.shows(1, "a1bc!!!!!!!")
	x.after(crash(1, ""))
	x.want(edit(1, keep(11)), api.ErrDown)
	x.want(edit(1, keep(0)), api.ErrDown)
	x.after(crash(2, ""))
	x.want(edit(2, keep(3)), api.ErrDown)
	x.after(bringUp(1), bringUp(2))
	x.want(edit(2, keep(3)), api.ErrWorldOp)
	x.shows(1, "a1bc!!!!!!!")
}

func TestTick(t *testing.T) {
	x := newTown(t, 600, 100, 2).after(create("a"), load("a", "abc"), join(1, "a"))
	x.want(tick(2), api.ErrWorldOp)
	x.after(tick(1))
	pull, _ := wire.Encode(api.Message{Kind: api.MsgPull, Branch: 1, Client: 1, Rev: 1})
	if l := x.w.Net(); !slices.Equal(l, []api.Letter{{Text: pull}}) {
		t.Errorf("P23.2: %s", show(l))
	}
	x.after(edit(1, ins("x"), keep(3)), edit(1, ins("y"), keep(4)), crash(0, ""), tick(1), tick(1))
	put, _ := wire.Encode(api.Message{Kind: api.MsgEdit, Branch: 1, Client: 1, Seq: 1, Rev: 1, Delta: ops(ins("x"), keep(3))})
	if l := x.w.Net(); !slices.Equal(l, []api.Letter{{Text: pull}, {Text: put}, {Text: pull}, {Text: put}, {Text: pull}}) {
		t.Errorf("P23.2: %s", show(l))
	}
	x.after(crash(1, ""), crash(2, ""))
	x.want(tick(1), api.ErrDown)
	x.want(tick(2), api.ErrDown)
	if l := x.w.Net(); len(l) != 5 {
		t.Errorf("P23.2: %s", show(l))
	}
}

// TestDeliverToServer: each letter is gone, whatever is answered.
func TestDeliverToServer(t *testing.T) {
	x := busy(t, 2)
	for _, n := range []int{-1, 0, 1, math.MinInt, math.MaxInt} {
		x.want(deliver(n), api.ErrNetNone)
	}
	x.after(edit(1, ins("x"), keep(3)), tick(1), double(0), double(0))
	x.want(deliver(4), api.ErrNetNone)
	x.want(deliver(-1), api.ErrNetNone)
	x.after(deliver(2))
	x.reads("a", "xabc")
	// Said again: nothing comes of it, and that is no error.
	x.after(deliver(0), deliver(1))
	x.reads("a", "xabc")
	// The pull is answered with the revisions that the client does not know.
	x.after(deliver(0))
	want, _ := wire.Encode(api.Message{Kind: api.MsgNext, Branch: 1, Client: 1, Rev: 2, Who: 1, Seq: 1, Delta: ops(ins("x"), keep(3))})
	if l := x.w.Net(); !slices.Equal(l, []api.Letter{{To: 1, Text: want}}) {
		t.Errorf("P23.2: %s", show(l))
	}
	x.after(deliver(0), tick(1), deliver(0))
	if l := x.w.Net(); len(l) != 0 {
		t.Errorf("P23.2: nothing is new, but %s", show(l))
	}
	// While the server is down a letter to it is gone.
	x.after(edit(2, keep(3), ins("!")), tick(2), tick(2), crash(0, ""))
	for n := 4; n > 0; n-- {
		x.want(deliver(n-1), api.ErrDown)
	}
	x.want(deliver(0), api.ErrNetNone)
	x.after(bringUp(0))
	x.reads("a", "xabc")
	x.after(tick(2), deliver(0))
	x.reads("a", "xabc!")
}

// TestServersErrors: what a repository answers of a message, a world answers.
func TestServersErrors(t *testing.T) {
	x := busy(t, 2).after(edit(1, ins("x"), keep(3)), tick(1), remove("a"))
	x.want(deliver(0), api.ErrStateNone)
	x.want(deliver(0), api.ErrStateNone)
	x = busy(t, 2).after(edit(1, keep(3), ins("x")), tick(1), load("a", long("y", 1000)))
	x.want(deliver(0), api.ErrStateTooLong)
	x.after(deliver(0))
	x.want(deliver(0), api.ErrDeltaLength)
	x.shows(1, "abcx")
	x = newTown(t, 4096, 100, 1).after(create("a"), join(1, "a"))
	for n := 2; n <= api.MaxCommits; n++ {
		x.w.Do(load("a", fmt.Sprint(n)))
	}
	x.m.figures[0].settle(holding{state: x.w.State()})
	if s := x.w.State(); s.NextCommit != api.MaxCommits+1 {
		t.Fatalf("there are %d commits", s.NextCommit-1)
	}
	x.after(edit(1, ins("x")), tick(1))
	x.want(deliver(0), api.ErrStateFull)
	x.after(round(), round(), round(), round(), round(), round())
	x.shows(1, "300x")
	x.reads("a", "300")
}

func TestDeliverToClient(t *testing.T) {
	x := busy(t, 2).after(load("a", "abcd"), load("a", "abcde"), tick(1), deliver(0))
	x.want(deliver(1), api.ErrStateGap)
	x.after(double(0), deliver(0))
	x.want(deliver(0), api.ErrStateOld)
	x.want(deliver(0), api.ErrNetNone)
	x.shows(1, "abcd")
	x.after(tick(1), deliver(0), crash(1, ""))
	x.want(deliver(0), api.ErrDown)
	x.want(deliver(0), api.ErrNetNone)
	x.after(bringUp(1))
	x.shows(1, "abcd")
	x.after(edit(1, ins("x"), keep(4)), tick(1), deliver(0), deliver(0), deliver(0))
	x.shows(1, "xabcde")
	if e := x.editor(1); e.Rev != 3 || len(e.Pending) != 1 {
		t.Errorf("P23.2: %s", show(e))
	}
	// Without the server, too.
	x.after(crash(0, ""), deliver(0))
	if e := x.editor(1); e.Rev != 4 || len(e.Pending) != 0 || e.Text != "xabcde" {
		t.Errorf("P23.2: %s", show(e))
	}
	x.shows(2, "abc")
}

// TestNextWithoutRoom: what has no room on the shelf leaves the editor as it was.
func TestNextWithoutRoom(t *testing.T) {
	room := roomOf(t, 12)
	x := newTown(t, 600, 12, 1).after(create("a"), load("a", "abc"), join(1, "a"), edit(1, keep(3), ins("!")))
	x.after(load("a", "abc"+long("x", room)), tick(1), deliver(1))
	x.want(deliver(1), api.ErrNoSpace)
	x.shows(1, "abc!")
	x.after(crash(1, ""), bringUp(1))
	x.shows(1, "abc!")
	// The edit comes in, but the editor does not come to know of it.
	x.after(round(), round())
	x.shows(1, "abc!")
	x.reads("a", "abc"+long("x", room)+"!")
}

// TestNextThatIsTooLong: an editor that would have no form any more stays as it was.
func TestNextThatIsTooLong(t *testing.T) {
	const n = 960
	x := newTown(t, 4096, 4096, 1).after(create("a"), load("a", long("😀", n)), join(1, "a"))
	turn := func(places int) []api.Op {
		var d []api.Op
		for range places {
			d = append(d, keep(1), ins("😀"), gone(1))
		}
		if n > 2*places {
			d = append(d, keep(n-2*places))
		}
		return d
	}
	for range 7 {
		x.after(edit(1, turn(n/2)...))
	}
	places := n / 2
	for ; places > 0; places -= 8 {
		if _, e := x.do(edit(1, turn(places)...)); e == api.OK {
			break
		} else if e != api.ErrClientFull {
			t.Fatalf("P23.2: an edit at %d places: %d", places, e)
		}
	}
	was := x.editor(1)
	if places < 10 || len(was.Pending) != 8 {
		t.Fatalf("%d edits wait, the last one of %d places", len(was.Pending), places)
	}
	x.after(write("a", ins(long("😀", 1000-n)), keep(n)), tick(1), deliver(1))
	x.want(deliver(1), api.ErrClientFull)
	x.after(crash(1, ""), bringUp(1))
	if e := x.editor(1); !same(e, was) {
		t.Errorf("P23.2: %s, want %s", show(e), show(was))
	}
}

func TestDropAndDouble(t *testing.T) {
	x := busy(t, 2).after(edit(1, ins("x"), keep(3)), tick(1), tick(2))
	for _, n := range []int{-1, 3, math.MinInt, math.MaxInt} {
		x.want(drop(n), api.ErrNetNone)
		x.want(double(n), api.ErrNetNone)
	}
	l := x.w.Net()
	x.after(double(1), drop(0))
	if got := x.w.Net(); !slices.Equal(got, []api.Letter{l[1], l[2], l[1]}) {
		t.Errorf("P23.2: %s", show(got))
	}
	// Whoever is up or not.
	x.after(crash(0, ""), crash(1, ""), crash(2, ""), double(2), drop(1), drop(0), drop(0), drop(0))
	x.want(drop(0), api.ErrNetNone)
	x.want(double(0), api.ErrNetNone)
}

// TestNoRoom: 3000 letters are under way at most; one more is lost, and that is no error but of DoDouble.
func TestNoRoom(t *testing.T) {
	x := busy(t, 2).after(load("a", "abcd"), load("a", "abcde"), load("a", "ab"), edit(1, keep(3), ins("x")), tick(1))
	fill := func(n int) {
		t.Helper()
		for len(x.m.net) < n {
			if _, e := x.w.Do(double(1)); e != api.OK {
				t.Fatalf("P23.2: there is room for %d letters alone", len(x.m.net))
			}
			x.m.net = append(x.m.net, x.m.net[1])
		}
		x.look("P23.2")
	}
	fill(2999)
	// Of two letters there is room for one.
	x.after(tick(1))
	if l := x.w.Net(); len(l) != 3000 || l[2999] != l[0] {
		t.Errorf("P23.2: %d letters", len(l))
	}
	x.after(tick(1), tick(2))
	x.want(double(0), api.ErrNetFull)
	x.want(double(3000), api.ErrNetNone)
	// The letter that is taken makes room for one of three answers.
	x.after(deliver(1))
	if l := x.w.Net(); len(l) != 3000 || l[2999].To != 1 || l[2998].To != 0 {
		t.Errorf("P23.2: %d letters", len(l))
	}
	x.after(drop(0), drop(0), deliver(0))
	x.after(round())
	if e := x.editor(1); len(x.w.Net()) != 0 || e.Rev < 4 {
		t.Errorf("P23.2: behind a round: %s", show(e))
	}
	x.after(round(), round())
	x.shows(1, "abx")
	x.shows(2, "abx")
}

func TestFuse(t *testing.T) {
	x := busy(t, 1)
	for party := range 2 {
		for _, n := range []int{-2, -3, math.MinInt} {
			x.want(fuse(party, n), api.ErrArg)
		}
		x.after(fuse(party, 5), fuse(party, math.MaxInt), fuse(party, -1))
		// With 0 it falls at once, and stays so, whatever its fuse is then.
		x.after(fuse(party, 0))
		for range 2 {
			x.want(bringUp(party), api.ErrDown)
			x.want(fuse(party, -2), api.ErrArg)
		}
		x.after(fuse(party, 9), fuse(party, -1))
		x.want(join(1, "a"), api.ErrDown)
		x.after(bringUp(party))
		x.want(bringUp(party), api.ErrArg)
		// Behind a crash there is no fuse.
		x.after(fuse(party, 0), crash(party, ""), bringUp(party))
		x.after(fuse(party, 1), crash(party, ""), bringUp(party))
	}
	x.after(edit(1, ins("x"), keep(3)), round(), round())
	x.reads("a", "xabc")
	x.shows(1, "xabc")
}

func TestCrashAndRecover(t *testing.T) {
	x := busy(t, 2).after(edit(1, ins("x"), keep(3)))
	for party := range 3 {
		x.want(bringUp(party), api.ErrArg)
		x.after(crash(party, ""))
		for n := range 3 {
			if x.w.Up(n) != (n != party) {
				t.Errorf("P23.3: behind a crash of %d: Up(%d) = %t", party, n, x.w.Up(n))
			}
		}
		// Once more, with any mask.
		x.after(crash(party, "\x01\x01"), crash(party, long("\xff", 9000)), bringUp(party))
		x.want(bringUp(party), api.ErrArg)
	}
	if r := x.want(crash(0, "\x01"), api.OK); !same(r, api.Reply{}) {
		t.Errorf("P23.2: %s", show(r))
	}
	x.after(crash(1, ""), crash(2, ""))
	if s := x.w.State(); !same(s, api.State{}) || len(x.w.Editors()) != 0 {
		t.Errorf("P23.3: all are down: %s", show(s))
	}
	x.after(bringUp(2), bringUp(0), bringUp(1))
	x.shows(1, "xabc")
	x.reads("a", "abc")
}

func TestRound(t *testing.T) {
	// Nobody has joined.
	x := newTown(t, 600, 100, 3).after(round(), create("a"), load("a", "abc"), round(), join(1, "a"), join(3, "a"), round())
	// Nothing waits.
	x.shows(1, "abc")
	// Edits, and those behind them.
	x.after(edit(1, ins("1"), keep(3)), edit(1, ins("2"), keep(4)), edit(3, keep(3), ins("3")), round())
	x.reads("a", "1abc3")
	x.after(round())
	x.reads("a", "21abc3")
	x.after(round())
	x.shows(1, "21abc3")
	x.shows(3, "21abc3")
	// Letters from before: they come first.
	x.after(edit(1, ins("x"), keep(6)), tick(1), edit(3, keep(6), ins("y")), tick(3), tick(1), double(0), double(2), drop(1), round())
	x.reads("a", "x21abc3y")
	x.after(round())
	x.shows(1, "x21abc3y")
	// Parties that are down: what they would say is not said, what is for them is gone.
	x.after(edit(1, gone(8)), edit(3, ins("z"), keep(8)), crash(3, ""), round())
	x.reads("a", "")
	x.after(bringUp(3), crash(0, ""), round())
	if len(x.w.Net()) != 0 {
		t.Errorf("P23.2: behind a round with the server down: %s", show(x.w.Net()))
	}
	x.after(bringUp(0), crash(1, ""), round(), round(), bringUp(1))
	x.reads("a", "z")
	x.shows(3, "z")
	x.shows(1, "")
	x.after(round())
	x.shows(1, "z")
	x.after(crash(0, ""), crash(1, ""), crash(3, ""), crash(2, ""), round())
}
