package world_test

import (
	"math/rand"
	"runtime"
	"slices"
	"testing"

	"oxbow/api"
	"oxbow/state"
	"oxbow/trace"
	"oxbow/world"
)

func run(client int, seq int, from int, s string) api.Run {
	return api.Run{Origin: api.Origin{Client: client, Seq: seq}, From: from, Text: s}
}

// blames is a branch's document.
func (x *town) blames(name string) []api.Run {
	x.t.Helper()
	return x.want(blame(name), api.OK).Runs
}

// TestExamples: DOC.md's ten examples of the whole.
func TestExamples(t *testing.T) {
	// 1
	one := func() *town {
		return newTown(t, 600, 100, 1).after(create("a"), load("a", "abc"))
	}
	x := one()
	x.reads("a", "abc")
	if r := x.want(load("a", "axc"), api.OK); r.Num != 3 {
		t.Errorf("example 1: %s", show(r))
	}
	if d := x.w.State().Commits[2].Delta; !slices.Equal(d, ops(keep(1), ins("x"), gone(1), keep(1))) {
		t.Errorf("example 1: %s", show(d))
	}
	if l := x.blames("a"); !slices.Equal(l, []api.Run{run(0, 2, 0, "a"), run(0, 3, 0, "x"), run(0, 2, 2, "c")}) {
		t.Errorf("example 1: %s", show(l))
	}
	// 2
	x.after(fork("b", 2), load("b", "abcd"))
	other := one().after(load("a", "axc"), fork("b", 2), load("b", "abcd"))
	if r := x.want(mix("a", "b"), api.OK); r.Num != 5 {
		t.Errorf("example 2: %s", show(r))
	}
	x.reads("a", "axcd")
	other.after(mix("b", "a")).reads("b", "axcd")
	if l, k := x.blames("a"), other.blames("b"); !slices.Equal(l, k) {
		t.Errorf("example 2: %s, the other way round %s", show(l), show(k))
	}
	// 3
	for _, c := range [][3]string{{"aXb", "aYb", "aXYb"}, {"aXb", "aXb", "aXXb"}} {
		begun := []api.Act{create("a"), load("a", "ab"), fork("b", 2), load("a", c[0]), load("b", c[1])}
		x, y := newTown(t, 600, 100, 0).after(begun...).after(mix("a", "b")), newTown(t, 600, 100, 0).after(begun...).after(mix("b", "a"))
		x.reads("a", c[2])
		y.reads("b", c[2])
		if l, k := x.blames("a"), y.blames("b"); !slices.Equal(l, k) {
			t.Errorf("example 3: %s, the other way round %s", show(l), show(k))
		}
	}
	// 4
	x = newTown(t, 600, 100, 0).after(create("a"), load("a", "m"), fork("b", 2), load("a", "xm"), load("b", "my"), fork("c", 3), mix("a", "b"), mix("b", "c"), create("d"))
	x.want(mix("a", "b"), api.ErrMergeMany)
	x.want(mix("a", "d"), api.ErrMergeBase)
	// 5
	x.want(load("a", "a\xff"), api.ErrText)
	x.want(load("a", long("x", 1001)), api.ErrStateTooLong)
	x.want(write("a", keep(2)), api.ErrDeltaLength)
	x.reads("a", "xmy")
}

// TestExamplesOfEditors: those of clients, and of what falls.
func TestExamplesOfEditors(t *testing.T) {
	// 6
	x := busy(t, 1).after(edit(1, keep(1), ins("1"), keep(2)), write("a", keep(1), ins("2"), keep(2)))
	x.shows(1, "a1bc")
	x.after(round())
	x.shows(1, "a21bc")
	x.reads("a", "a21bc")
	// 7
	x.after(edit(1, ins("x"), keep(5)), edit(1, keep(6), ins("y")), round())
	x.reads("a", "xa21bc")
	x.after(round())
	x.reads("a", "xa21bcy")
	// 8
	x.after(edit(1, gone(7)), tick(1), double(0), deliver(0))
	s := x.w.State()
	x.after(deliver(1))
	if !same(s, x.w.State()) {
		t.Errorf("example 8: %s, want %s", show(x.w.State()), show(s))
	}
	x.after(round())
	x.reads("a", "")
	// 9
	for _, mask := range masks() {
		for n := 1; n < 12; n++ {
			x := busy(t, 0).after(fuse(0, n))
			x.want(load("a", "behind"), api.ErrDown)
			x.want(read("a"), api.ErrDown)
			x.after(crash(0, mask), bringUp(0))
			if r := x.want(read("a"), api.OK); r.Text != "abc" && r.Text != "behind" {
				t.Errorf("example 9: %s", show(r))
			}
		}
	}
	// 10
	x = busy(t, 0).after(fork("b", 2), load("b", "other"), remove("b"))
	s = x.w.State()
	if r := x.want(sweep(), api.OK); r.Num != 1 {
		t.Errorf("example 10: %s", show(r))
	}
	s.Commits = s.Commits[:2]
	if !same(s, x.w.State()) {
		t.Errorf("example 10: %s, want %s", show(x.w.State()), show(s))
	}
}

// TestEitherWay: P3, of two branches on which clients have worked: two worlds that are the same, up to the last act.
func TestEitherWay(t *testing.T) {
	counts := map[api.Errno]int{}
	for seed := range int64(60) {
		var towns []*town
		for range 2 {
			r := rand.New(rand.NewSource(seed))
			x := newTown(t, 1500, 100, 2).after(create("a"), load("a", "abc"), fork("b", 2), join(1, "a"), join(2, "b"))
			if seed%10 == 0 {
				x.after(remove("b"), create("b"))
			}
			for range 8 {
				n := 1 + r.Intn(2)
				x.after(edit(n, someDelta(r, length(x.editor(n).Text))...))
				if r.Intn(3) == 0 {
					x.do(mix("a", "b"))
				}
				if r.Intn(4) == 0 {
					x.do(fork("c", x.w.State().Branches[0].Log[0]))
					x.do(mix("b", "a"))
				}
				x.after(round())
			}
			towns = append(towns, x)
		}
		sameTowns(t, "R6", towns[0], towns[1])
		_, e := towns[0].do(mix("a", "b"))
		_, f := towns[1].do(mix("b", "a"))
		if e != f {
			t.Fatalf("P3: seed %d: %d, the other way round %d", seed, e, f)
		}
		counts[e]++
		if e != api.OK {
			continue
		}
		if l, k := towns[0].blames("a"), towns[1].blames("b"); !slices.Equal(l, k) {
			t.Fatalf("P3: seed %d: %s, the other way round %s", seed, show(l), show(k))
		}
		towns[0].ends()
	}
	if counts[api.OK] < 10 || len(counts) < 2 {
		t.Errorf("P3: the merges answered %v", counts)
	}
}

// TestNothingIsShared: R5: what is written into what was handed in or answered shows nowhere.
func TestNothingIsShared(t *testing.T) {
	d := ops(keep(1), ins("1"), keep(2))
	x := busy(t, 2).after(edit(1, d...), edit(1, ins("0"), keep(4)), tick(1), deliver(0), tick(2))
	d[1].Text = "?"
	spoil := func(spoilt func()) {
		t.Helper()
		spoilt()
		x.look("R5")
	}
	for _, e := range x.w.Editors() {
		for i := range e.Pending {
			p := &e.Pending[i]
			spoil(func() { clear(p.Delta[:cap(p.Delta)]) })
			p.Seq = 99
		}
		spoil(func() { _ = append(e.Pending, api.Edit{Seq: 99}) })
	}
	l := x.w.Editors()
	spoil(func() { clear(l[:cap(l)]) })
	n := x.w.Net()
	spoil(func() { clear(n[:cap(n)]) })
	s := x.w.State()
	spoil(func() {
		for i := range s.Commits {
			clear(s.Commits[i].Delta[:cap(s.Commits[i].Delta)])
			clear(s.Commits[i].Parents[:cap(s.Commits[i].Parents)])
		}
		for i := range s.Branches {
			clear(s.Branches[i].Log[:cap(s.Branches[i].Log)])
		}
		clear(s.Commits[:cap(s.Commits)])
		clear(s.Branches[:cap(s.Branches)])
		clear(s.Clients[:cap(s.Clients)])
	})
	r := x.want(blame("a"), api.OK)
	spoil(func() { clear(r.Runs[:cap(r.Runs)]) })
	r = x.want(ask(api.Request{Kind: api.ReqLog, Name: "a"}), api.OK)
	spoil(func() { clear(r.Log[:cap(r.Log)]) })
	// No two lists of one answer share any.
	a, b := x.w.Editors(), x.w.Editors()
	b[0].Pending[0].Delta = append(b[0].Pending[0].Delta, ins("?"))
	if !same(a[0].Pending[1], b[0].Pending[1]) || !same(a[1], b[1]) {
		t.Errorf("R5: %s", show(b))
	}
	x.ends()
}

// TestApart: two worlds know nothing of one another, and what one answers hangs on its acts alone.
func TestApart(t *testing.T) {
	x, y := busy(t, 8), busy(t, 8)
	sameTowns(t, "R6", x, y)
	x.after(edit(1, ins("x"), keep(3)), tick(1), crash(2, ""), fuse(0, 3))
	x.want(load("a", "xyz"), api.ErrDown)
	y.look("R6")
}

// TestJoined: the workers that make the clients are gone when New answers.
func TestJoined(t *testing.T) {
	ahead := runtime.NumGoroutine()
	for range 50 {
		if _, e := world.New(api.Config{Sectors: 600, Shelf: 64, Clients: 8}); e != api.OK {
			t.Fatalf("P23.1: %d", e)
		}
	}
	if n := runtime.NumGoroutine(); n > ahead+8 {
		t.Errorf("there are %d goroutines, and were %d", n, ahead)
	}
}

// TestWhatWasSeen: P6 of a world in which clients fall and come back: along a branch an order of all documents that were ever its tip stays one, also where commits are swept.
func TestWhatWasSeen(t *testing.T) {
	for seed := range int64(10) {
		r := rand.New(rand.NewSource(seed))
		x := busy(t, 3)
		var seen [][]api.Run
		for range 40 {
			n := 1 + r.Intn(3)
			x.do(edit(n, someDelta(r, length(x.editor(n).Text))...))
			switch r.Intn(4) {
			case 0:
				x.after(crash(n, "\x01"), bringUp(n))
			case 1:
				x.after(crash(0, "\x00\x01"), bringUp(0), sweep())
			}
			x.after(round())
			s := x.w.State()
			log := s.Branches[0].Log
			d, _ := state.Doc(s, log[len(log)-1])
			seen = append(seen, d)
		}
		if i, j, fine := trace.Check(seen); !fine {
			t.Fatalf("P6: %s and %s", show(seen[i]), show(seen[j]))
		}
		if _, fine := trace.Order(seen); !fine {
			t.Fatalf("P6: there is no order of %s", show(seen))
		}
		x.ends()
	}
}
