package world_test

import (
	"fmt"
	"testing"

	"oxbow/api"
)

// masks are what may survive of sectors that wait, however many they are.
func masks() []string {
	return []string{"", long("\x01", 300), long("\x00\x01", 150), long("\x01\x00", 150), "\x01", "\x00\x01", long("\x01\x01\x00", 100)}
}

// A scene is acts that come ahead of one that a party's fuse cuts off.
type scene struct {
	ahead []api.Act
	party int
	act   api.Act
}

// scenes are acts of all kinds that write, on a device of the server's or a client's.
func scenes() map[string]scene {
	begun := []api.Act{create("a"), load("a", "abc"), fork("b", 2), load("b", "abcd"), join(1, "a"), join(2, "b")}
	with := func(l ...api.Act) []api.Act { return append(append([]api.Act{}, begun...), l...) }
	return map[string]scene{
		"create":                      {with(), 0, create("c")},
		"import":                      {with(), 0, load("a", "axc")},
		"a long import":               {with(), 0, load("a", long("0123456789é", 80))},
		"an edit asked for":           {with(), 0, write("a", keep(3), ins("!"))},
		"fork":                        {with(), 0, fork("c", 1)},
		"merge":                       {with(load("a", "xabc")), 0, mix("a", "b")},
		"rename":                      {with(), 0, rename("a", "z")},
		"delete":                      {with(), 0, remove("a")},
		"sweep":                       {with(load("b", "gone soon"), remove("b")), 0, sweep()},
		"a client's edit comes in":    {with(edit(1, ins("x"), keep(3)), tick(1)), 0, deliver(0)},
		"a client's next edit":        {with(edit(1, ins("x"), keep(3)), edit(1, ins("y"), keep(4)), round(), tick(1)), 0, deliver(0)},
		"join":                        {[]api.Act{create("a"), load("a", "abc")}, 1, join(1, "a")},
		"join with a long text":       {[]api.Act{create("a"), load("a", long("é", 900))}, 1, join(1, "a")},
		"edit":                        {with(), 1, edit(1, keep(1), ins("1"), keep(2))},
		"the next edit":               {with(edit(1, keep(1), ins("1"), keep(2))), 1, edit(1, keep(4), ins(long("é", 300)))},
		"a revision of another one's": {with(edit(1, keep(3), ins("1")), write("a", keep(1), ins("2"), keep(2)), tick(1), deliver(1)), 1, deliver(1)},
		"a revision of its own":       {with(edit(1, keep(3), ins("1")), tick(1), deliver(0), deliver(0)), 1, deliver(0)},
	}
}

// TestEveryPoint: each act that writes, cut off at each write, whatever survives: who has fallen is found, when it is recovered, as it was ahead of the act or as it is behind it; a second fall changes nothing; and all goes on.
func TestEveryPoint(t *testing.T) {
	for what, s := range scenes() {
		t.Run(what, func(t *testing.T) {
			t.Parallel()
			found := map[bool]int{} // of acts that were cut off, whether they were found done
			for n, done := 0, false; !done; n++ {
				for _, mask := range append(masks(), "up") {
					x := newTown(t, 400, 100, 2).after(s.ahead...).after(fuse(s.party, n+1))
					ahead := x.m.figures[s.party].has
					_, e := x.do(s.act)
					done = e == api.OK && x.w.Up(s.party)
					x.fallsAndComes(s.party, mask)
					if e != api.OK {
						found[!x.sees(s.party).same(ahead)]++
					}
					x.goesOn()
				}
			}
			if found[true] == 0 || found[false] == 0 {
				t.Errorf("P2: of the acts that were cut off so many were found done, or not: %v", found)
			}
		})
	}
}

// TestMasks: what survives is what the mask of a crash says: cut off at the same write, an act is found done with one mask, and not with another one.
func TestMasks(t *testing.T) {
	for what, s := range scenes() {
		t.Run(what, func(t *testing.T) {
			both := 0
			for n, done := 1, false; !done; n++ {
				found := map[bool]int{}
				for _, mask := range []string{"", long("\x01", 300)} {
					x := newTown(t, 400, 100, 2).after(s.ahead...).after(fuse(s.party, n))
					ahead := x.m.figures[s.party].has
					_, e := x.do(s.act)
					done = e == api.OK
					x.after(crash(s.party, mask), bringUp(s.party))
					found[!x.sees(s.party).same(ahead)]++
				}
				both += len(found) / 2
			}
			if both == 0 {
				t.Error("P23.2: the mask changes nothing")
			}
		})
	}
}

// fallsAndComes has a party that may have fallen already fall, or come up as it is, and recover: twice.
func (x *town) fallsAndComes(party int, mask string) {
	x.t.Helper()
	for range 2 {
		if mask == "up" && !x.w.Up(party) {
			x.want(bringUp(party), api.ErrDown)
			x.after(fuse(party, -1), bringUp(party))
			continue
		}
		x.after(crash(party, mask))
		if party == 0 {
			x.want(read("a"), api.ErrDown)
		} else {
			x.want(tick(party), api.ErrDown)
		}
		x.after(bringUp(party))
		x.want(bringUp(party), api.ErrArg)
	}
}

// goesOn has a world in which all are up go on to its end.
func (x *town) goesOn() {
	x.t.Helper()
	s := x.w.State()
	for _, e := range x.w.Editors() {
		x.after(edit(e.Client, append(ops(ins("on")), kept(length(e.Text))...)...))
	}
	if len(s.Branches) > 0 {
		x.do(load(s.Branches[0].Name, "going on"))
	}
	x.ends()
}

// kept keeps so many.
func kept(n int) []api.Op {
	if n == 0 {
		return nil
	}
	return ops(keep(n))
}

// TestFuseBurntByTheLastWrite: an act that was answered is done, also if its last write burnt the fuse; then its party has fallen.
func TestFuseBurntByTheLastWrite(t *testing.T) {
	for what, s := range scenes() {
		t.Run(what, func(t *testing.T) {
			fell := 0
			for n := 1; ; n++ {
				x := newTown(t, 400, 100, 2).after(s.ahead...).after(fuse(s.party, n))
				_, e := x.do(s.act)
				if e == api.OK && x.w.Up(s.party) {
					break
				}
				if x.w.Up(s.party) {
					t.Fatalf("P23.2: with a fuse of %d: %d, and it is up", n, e)
				}
				if e != api.OK {
					continue
				}
				fell++
				then := x.m.figures[s.party].has
				x.after(crash(s.party, ""), bringUp(s.party))
				if now := x.sees(s.party); !now.same(then) {
					t.Errorf("P23.2: found is %s, want %s", show(now), show(then))
				}
			}
			if fell != 1 {
				t.Errorf("P23.2: with %d fuses it was answered, and fell", fell)
			}
		})
	}
}

// TestEveryPointOfRecover: a recovery that is cut off at each write, and then done again, behind a crash or without one, finds what one that is not cut off finds.
func TestEveryPointOfRecover(t *testing.T) {
	for what, s := range scenes() {
		t.Run(what, func(t *testing.T) {
			t.Parallel()
			cut := 0
			for n, done := 0, false; !done; n++ {
				for i, mask := range append(masks(), "up") {
					// How the first fall ends: a crash with a mask, or the fuse is lifted.
					fallen := func() *town {
						x := newTown(t, 400, 100, 2).after(s.ahead...).after(fuse(s.party, n+1))
						_, e := x.do(s.act)
						done = e == api.OK && x.w.Up(s.party)
						if mask == "up" && !x.w.Up(s.party) {
							return x.after(fuse(s.party, -1))
						}
						return x.after(crash(s.party, mask))
					}
					want := fallen().after(bringUp(s.party)).sees(s.party)
					for m := 1; ; m++ {
						x := fallen().after(fuse(s.party, m))
						_, e := x.do(bringUp(s.party))
						if e == api.OK && !x.w.Up(s.party) {
							t.Fatalf("P23.2: with a fuse of %d it is recovered, but not up", m)
						}
						whole := e == api.OK
						if !whole {
							cut++
							x.want(bringUp(s.party), api.ErrDown)
							if (m+i)%3 == 0 {
								x.after(fuse(s.party, -1), bringUp(s.party))
							} else {
								x.after(crash(s.party, masks()[(m+i)%7]), bringUp(s.party))
							}
						}
						if now := x.sees(s.party); !now.same(want) {
							t.Fatalf("P2: fuse %d, mask %x, a recovery with a fuse of %d: found is %s, want %s", n, mask, m, show(now), show(want))
						}
						if whole {
							break
						}
					}
				}
			}
			if cut == 0 && s.party == 0 {
				t.Error("P23.2: no recovery was cut off")
			}
		})
	}
}

// TestFallsOfOthers: who falls is the one whose device is down, and nobody else.
func TestFallsOfOthers(t *testing.T) {
	for party := range 3 {
		x := busy(t, 2).after(edit(1, ins("1"), keep(3)), edit(2, ins("2"), keep(3)), fuse(party, 1))
		switch party {
		case 0:
			x.want(load("a", "xyz"), api.ErrDown)
		default:
			x.want(edit(party, ins("x"), keep(4)), api.ErrDown)
		}
		for n := range 3 {
			if x.w.Up(n) != (n != party) {
				t.Errorf("P23.3: behind a fall of %d: Up(%d) = %t", party, n, x.w.Up(n))
			}
		}
		x.after(tick(3-max(1, party)), crash(party, ""), bringUp(party)).ends()
	}
}

// TestFusesInRounds: a round in which a fuse blows anywhere is its parts, one by one, in which it blows.
func TestFusesInRounds(t *testing.T) {
	fell := map[string]int{}
	for party := range 3 {
		for n := 1; ; n++ {
			var towns []*town
			for range 2 {
				x := busy(t, 2).after(edit(1, ins("1"), keep(3)), edit(1, ins("2"), keep(4)), edit(2, keep(3), ins("3")), tick(2))
				towns = append(towns, x.after(fuse(party, n)))
			}
			towns[0].w.Do(round())
			x := towns[1]
			for client := 1; client <= 2; client++ {
				x.do(tick(client))
			}
			for len(x.w.Net()) > 0 {
				x.do(deliver(0))
			}
			isUp := x.w.Up(party)
			for behind := 0; behind < 2; behind++ {
				sameTowns(t, fmt.Sprintf("with a fuse of %d of %d", n, party), towns[0], towns[1])
				if !isUp {
					for _, y := range towns {
						y.w.Do(crash(party, masks()[n%7]))
						y.w.Do(bringUp(party))
					}
				}
			}
			if isUp {
				break
			}
			fell[fmt.Sprint(party)]++
		}
	}
	if fell["0"] < 20 || fell["1"] < 8 || fell["2"] < 8 {
		t.Errorf("of the parties so many fuses blew: %v", fell)
	}
}

// sameTowns holds that two worlds cannot be told apart.
func sameTowns(t *testing.T, what string, x *town, y *town) {
	t.Helper()
	for n := range len(x.m.figures) {
		if x.w.Up(n) != y.w.Up(n) {
			t.Fatalf("%s: Up(%d): %t and %t", what, n, x.w.Up(n), y.w.Up(n))
		}
	}
	if a, b := x.w.State(), y.w.State(); !same(a, b) {
		t.Fatalf("%s: State: %s and %s", what, show(a), show(b))
	}
	if a, b := x.w.Editors(), y.w.Editors(); !same(a, b) {
		t.Fatalf("%s: Editors: %s and %s", what, show(a), show(b))
	}
	if a, b := x.w.Net(), y.w.Net(); !same(a, b) {
		t.Fatalf("%s: Net: %s and %s", what, show(a), show(b))
	}
}
