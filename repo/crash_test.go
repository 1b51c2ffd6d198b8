package repo_test

import (
	"fmt"
	"math/rand"
	"testing"

	"oxbow/api"
	"oxbow/chunks"
	"oxbow/dev"
	"oxbow/gc"
	"oxbow/repo"
	"oxbow/state"
)

// masks are what may survive of so many sectors: of few all that there are; else none, all, each second one, all but one, one alone, and some.
func masks(r *rand.Rand, n int) []string {
	var l []string
	if n <= 3 {
		for bits := range 1 << n {
			b := make([]byte, n)
			for i := range b {
				b[i] = byte(bits >> i)
			}
			l = append(l, string(b))
		}
		return l
	}
	all, at := long("\x01", n), r.Intn(n)
	l = append(l, "", all, long("\x01\x00", n), long("\x00\x01", n), all[:at]+"\x00"+all[at+1:], long("\x00", at)+"\x01")
	for range 3 {
		b := make([]byte, n)
		r.Read(b)
		l = append(l, string(b))
	}
	return l
}

// behind is the state that a call makes of another one, by the machine and gc.
func behind(t *testing.T, s api.State, x any) api.State {
	t.Helper()
	var e api.Errno
	switch x := x.(type) {
	case api.Request:
		if x.Kind == api.ReqSweep {
			s, _ = gc.Sweep(s)
			return s
		}
		s, _, e = state.Do(s, x)
	case api.Message:
		s, e = state.Edit(s, x)
	}
	if e != api.OK {
		t.Fatalf("chapter 19: %s: %d", show(x), e)
	}
	return s
}

// TestEveryPoint: each call that writes, cut off at each write, whatever survives, crashed or not: the state is the one ahead or the one behind; opened twice it is the same; the call goes when it is made again.
func TestEveryPoint(t *testing.T) {
	for what, x := range map[string]any{
		"create": create("d"), "import": load("a", "xyz"), "a long import": load("c", long("0123456789é", 80)), "edit": edit("b", keep(2), ins("!"), gone(2)),
		"fork": fork("d", 3), "merge": mix("a", "b"), "rename": rename("a", "z"), "delete": remove("a"), "sweep": sweep(),
		"a client's first edit": sent(1, 1, 1, 2, keep(3), ins("!")), "a client's next edit": sent(3, 3, 1, 3, gone(4)),
	} {
		t.Run(what, func(t *testing.T) {
			t.Parallel()
			b := some(t, 500).after(t, load("c", long("gone soon ", 30)), load("c", ""))
			everyPoint(t, b, x)
		})
	}
}

// TestEveryPointOfSweep: with nothing to go but chunks, and with many commits.
func TestEveryPointOfSweep(t *testing.T) {
	t.Run("chunks alone", func(t *testing.T) {
		t.Parallel()
		b := newBench(t, 500).after(t, create("a"), load("a", long("ab", 100)), rename("a", "b"), rename("b", "a"))
		everyPoint(t, b, sweep())
	})
	t.Run("all", func(t *testing.T) {
		t.Parallel()
		b := newBench(t, 500).after(t, create("a"), load("a", long("ab", 100)), load("a", "xy"), load("a", long("xy", 50)), remove("a"))
		everyPoint(t, b, sweep())
		b.after(t, create("a"))
	})
}

func everyPoint(t *testing.T, b *bench, x any) {
	t.Helper()
	r := rand.New(rand.NewSource(22))
	ahead, after := b.s, behind(t, b.s, x)
	n := b.copy(t).steps(t, x)
	found := map[bool]int{}
	for fuse := range n + 2 {
		cut := b.copy(t)
		cut.d.Fuse(fuse)
		e := cut.any(t, x) // which holds State, too
		if (e == api.OK) != (fuse >= n) || e != api.OK && e != api.ErrDown {
			t.Fatalf("P22.2: %s: fuse %d of %d: %d", show(x), fuse, n, e)
		}
		look := func(what string, d *dev.Dev) {
			t.Helper()
			what = fmt.Sprintf("P22.5: %s: fuse %d of %d, %s", show(x), fuse, n, what)
			s := open(t, d).State()
			isNew := same(s, after)
			if !isNew && (e == api.OK || !same(s, ahead)) {
				t.Fatalf("%s: %s", what, show(s))
			}
			// What State tells behind the call is what is there, or what was there ahead of it.
			if same(cut.s, after) && !isNew {
				t.Fatalf("%s: State told %s, but there is %s", what, show(cut.s), show(s))
			}
			found[isNew]++
			again := opened(t, d, s)
			if !isNew {
				again.after(t, x)
			}
			d.Crash("")
			opened(t, d, after).after(t, sweep())
		}
		for _, mask := range masks(r, len(cut.d.Waiting())) {
			d := cut.d.Copy()
			d.Crash(mask)
			look(fmt.Sprintf("%x survives", mask), d)
		}
		cut.d.Fuse(-1)
		look("without a crash", cut.d.Copy())
		cut.d.Fuse(0)
		if e != api.OK && fuse%8 == 0 {
			cut.holdLost(t, "cut off")
		}
	}
	if found[true] == 0 || found[false] == 0 && !same(ahead, after) {
		t.Errorf("P22.5: %s: of both states one was never found", show(x))
	}
}

// TestSweepBehindItsFirstWrite: a sweep that is cut off behind the first write has let the commits go, and State tells so.
func TestSweepBehindItsFirstWrite(t *testing.T) {
	start := newBench(t, 500).after(t, create("a"), load("a", long("ab", 100)), fork("b", 1), remove("a"))
	want := start.copy(t).after(t, sweep()).s
	n := start.copy(t).steps(t, sweep())
	first, then := 0, 0
	for fuse := range n {
		b := start.copy(t)
		b.d.Fuse(fuse)
		reply, e := b.r.Do(sweep())
		if e != api.ErrDown || !sameReply(reply, api.Reply{}) {
			t.Fatalf("P22.2: fuse %d of %d: %s, %d", fuse, n, show(reply), e)
		}
		switch s := b.r.State(); {
		case same(s, start.s) && then == 0:
			first++
		case same(s, want):
			then++
			b.d.Crash("")
			b = opened(t, b.d, want)
			b.answers(t, sweep(), 0, api.OK)
		default:
			t.Fatalf("P22.2: fuse %d of %d: %s", fuse, n, show(s))
		}
	}
	if first < 3 || then < 3 {
		t.Errorf("P22.2: of %d cuts %d were in the first write, and %d behind it", n, first, then)
	}
}

// TestEveryPointOfNew: where New had no end, Open answers ErrRepoForm, or the repository is there. New again answers as chunks.New does.
func TestEveryPointOfNew(t *testing.T) {
	r := rand.New(rand.NewSource(1))
	found := map[api.Errno]int{}
	again := map[api.Errno]int{}
	for fuse, done := 0, false; !done; fuse++ {
		d := newDev(t, 300)
		d.Fuse(fuse)
		x, e := repo.New(d)
		if done = e == api.OK; !done && (x != nil || e != api.ErrDown) {
			t.Fatalf("P22.1: New with a fuse of %d: %d", fuse, e)
		}
		look := func(d *dev.Dev) {
			t.Helper()
			y, f := repo.Open(d.Copy())
			found[f]++
			if f != api.OK && (f != api.ErrRepoForm || e == api.OK || y != nil) {
				t.Fatalf("P22.1: Open behind a New with a fuse of %d: %d", fuse, f)
			}
			if f == api.OK {
				opened(t, d, state.New()).after(t, create("a"))
				return
			}
			_, want := chunks.New(d.Copy())
			z, f := repo.New(d)
			again[f]++
			if f != want || (z == nil) != (f != api.OK) {
				t.Fatalf("P22.1: New again behind one with a fuse of %d: %d, want %d", fuse, f, want)
			}
			if f == api.OK {
				opened(t, d, state.New()).after(t, create("a"))
			}
		}
		for _, mask := range masks(r, len(d.Waiting())) {
			c := d.Copy()
			c.Crash(mask)
			look(c)
		}
		d.Fuse(-1)
		look(d)
	}
	if found[api.OK] == 0 || found[api.ErrRepoForm] == 0 || again[api.OK] == 0 {
		t.Errorf("P22.1: Open behind a New without an end: %v; New again: %v", found, again)
	}
}

// TestEveryPointOfOpen: Opens that are cut off, and crashes behind them, change nothing of what is found.
func TestEveryPointOfOpen(t *testing.T) {
	r := rand.New(rand.NewSource(2))
	start := some(t, 500)
	cutOff := 0
	for _, x := range []any{load("a", "xyz"), sweep(), sent(1, 1, 1, 4, keep(5), ins("!"))} {
		after := behind(t, start.s, x)
		n := start.copy(t).steps(t, x)
		for fuse := range n {
			cut := start.copy(t)
			cut.d.Fuse(fuse)
			cut.any(t, x)
			crashed := masks(r, len(cut.d.Waiting()))
			d := cut.d.Copy()
			d.Crash(crashed[r.Intn(len(crashed))])
			want := open(t, d.Copy()).State()
			if !same(want, start.s) && !same(want, after) {
				t.Fatalf("P22.5: %s: fuse %d: %s", show(x), fuse, show(want))
			}
			for again := 0; ; again++ {
				c := d.Copy()
				c.Fuse(again)
				y, e := repo.Open(c)
				if e == api.OK {
					if s := y.State(); !same(s, want) {
						t.Fatalf("P22.5: %s: opened with a fuse of %d: %s", show(x), again, show(s))
					}
					break
				}
				if y != nil || e != api.ErrDown {
					t.Fatalf("P22.1: Open with a fuse of %d: %d", again, e)
				}
				if again > 0 {
					cutOff++
				}
				for _, mask := range masks(r, len(c.Waiting())) {
					c := c.Copy()
					c.Crash(mask)
					opened(t, c, want)
				}
				c.Fuse(-1)
				opened(t, c, want)
			}
		}
	}
	if cutOff < 20 {
		t.Errorf("P22.1: only %d Opens were cut off on the way", cutOff)
	}
}

// TestExample9: the server's fuse blows in the midst of import.
func TestExample9(t *testing.T) {
	start := newBench(t, 500).after(t, create("a"), load("a", "ahead"))
	b := start.copy(t)
	b.d.Fuse(6)
	b.answers(t, load("a", "behind"), 0, api.ErrDown)
	b.answers(t, read("a"), 0, api.ErrDown)
	for _, mask := range []string{"", "\x01", "\x00\x01", "\x01\x01\x01\x01\x01\x01"} {
		d := b.d.Copy()
		d.Crash(mask)
		reply, e := open(t, d).Do(read("a"))
		if e != api.OK || reply.Text != "ahead" && reply.Text != "behind" {
			t.Errorf("example 9: %x survives: %s, %d", mask, show(reply), e)
		}
	}
}

// someCall is a request or a message at random, mostly one that is not refused.
func someCall(r *rand.Rand, s api.State) any {
	fresh := string([]byte{"abcdefghij"[r.Intn(10)]})
	if len(s.Branches) == 0 || r.Intn(30) == 0 {
		return []any{create(fresh), sweep(), api.Request{Kind: r.Intn(14), Name: fresh}, api.Message{Kind: r.Intn(4)}}[r.Intn(4)]
	}
	b := s.Branches[r.Intn(len(s.Branches))]
	other := s.Branches[r.Intn(len(s.Branches))].Name
	tip := b.Log[len(b.Log)-1]
	switch r.Intn(16) {
	case 0:
		return create(fresh)
	case 1, 2:
		return fork(fresh, 1+r.Intn(s.NextCommit))
	case 3, 4:
		return load(b.Name, someText(r))
	case 5:
		return edit(b.Name, around(lengthOf(s, tip), someText(r)+"x", 0)...)
	case 6, 7:
		return mix(b.Name, other)
	case 8:
		return rename(b.Name, fresh)
	case 9:
		return remove(b.Name)
	case 10:
		return sweep()
	case 11:
		return api.Request{Kind: api.ReqRead + r.Intn(4), Name: b.Name}
	case 12:
		return pull(1+r.Intn(9), b.Id, r.Intn(len(b.Log)+1))
	}
	rev := r.Intn(len(b.Log))
	m := sent(1+r.Intn(8), 1, b.Id, rev, around(0, someText(r)+"y", lengthOf(s, b.Log[rev]))...)
	for _, c := range s.Clients {
		if c.Client == m.Client {
			m.Seq = c.Seq + r.Intn(3)/2 + r.Intn(2)
			if s := r.Intn(4); s > 0 {
				m.Branch = c.Branch
			}
		}
	}
	return m
}

func someText(r *rand.Rand) string {
	s := ""
	for range r.Intn(30) {
		s += []string{"a", "b", "é", "€", "😀"}[r.Intn(5)]
	}
	return s
}

// around puts a text in between so many code points.
func around(ahead int, s string, behind int) []api.Op {
	var d []api.Op
	if ahead > 0 {
		d = append(d, keep(ahead))
	}
	d = append(d, ins(s))
	if behind > 0 {
		d = append(d, keep(behind))
	}
	return d
}

func lengthOf(s api.State, num int) int {
	n := 0
	l, _ := state.Doc(s, num)
	for _, x := range l {
		n += len([]rune(x.Text))
	}
	return n
}

// TestWalks: calls at random, some of them cut off, behind which the device is crashed, or comes up as it is; on great devices, and on ones that are soon full.
func TestWalks(t *testing.T) {
	for _, sectors := range []int{57, 65, 3000} {
		t.Run(fmt.Sprint(sectors), func(t *testing.T) {
			t.Parallel()
			counts := map[api.Errno]int{}
			found := map[bool]int{}
			for seed := range int64(16) {
				walk(t, rand.New(rand.NewSource(seed)), newBench(t, sectors), counts, found)
			}
			if counts[api.OK] < 300 || counts[api.ErrDown] < 60 || found[true] < 10 || found[false] < 10 || (counts[api.ErrNoSpace] < 30) != (sectors == 3000) {
				t.Errorf("the calls answered %v; of those cut off these were found: %v", counts, found)
			}
		})
	}
}

func walk(t *testing.T, r *rand.Rand, b *bench, counts map[api.Errno]int, found map[bool]int) {
	t.Helper()
	for range 70 {
		if r.Intn(3) == 0 {
			b.d.Fuse(r.Intn(1 + r.Intn(60)))
		}
		x := someCall(r, b.s)
		ahead := b.s
		e := b.any(t, x)
		counts[e]++
		if e != api.ErrDown && r.Intn(4) > 0 {
			b.d.Fuse(-1)
			continue
		}
		if r.Intn(3) == 0 {
			b.d.Fuse(-1)
		} else {
			mask := make([]byte, r.Intn(30))
			r.Read(mask)
			b.d.Crash(string(mask))
		}
		s := open(t, b.d).State()
		if e == api.ErrDown && !same(s, b.s) {
			if after := behindAny(b.s, x); !same(s, after) {
				t.Fatalf("P22.5: behind %s there is %s, neither %s nor %s", show(x), show(s), show(ahead), show(after))
			}
			found[true]++
		} else if e == api.ErrDown {
			found[false]++
		} else if !same(s, b.s) {
			t.Fatalf("P22.5: behind %s there is %s, want %s", show(x), show(s), show(b.s))
		}
		b = opened(t, b.d, s)
	}
}

// behindAny is the state behind a call, or the one ahead, if it is refused.
func behindAny(s api.State, x any) api.State {
	after, e := s, api.OK
	switch x := x.(type) {
	case api.Request:
		if x.Kind == api.ReqSweep {
			after, _ = gc.Sweep(s)
			return after
		}
		after, _, e = state.Do(s, x)
	case api.Message:
		after, e = state.Edit(s, x)
	}
	if e != api.OK {
		return s
	}
	return after
}
