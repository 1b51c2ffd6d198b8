package repo_test

import (
	"fmt"
	"math/rand"
	"slices"
	"strings"
	"testing"

	"oxbow/api"
	"oxbow/digest"
	"oxbow/gc"
	"oxbow/record"
	"oxbow/state"
)

// TestNoSpace: what there is no room for is refused, by requests and messages alike, and changes nothing; what needs no room goes; room comes of a sweep.
func TestNoSpace(t *testing.T) {
	b := newBench(t, 120).after(t, create("a"), create("b"), load("b", "b"))
	r := rand.New(rand.NewSource(4))
	filled := 0
	for e := api.OK; e == api.OK; filled++ {
		_, e = b.do(t, load("a", word(r, 100)))
		if e != api.OK && e != api.ErrNoSpace {
			t.Fatalf("P22.2: %d", e)
		}
	}
	reply, _ := b.do(t, read("a"))
	was := imprint(b.d)
	d := around(0, word(r, 800), len(reply.Text))
	b.answers(t, load("a", word(r, 800)), 0, api.ErrNoSpace)
	b.answers(t, edit("a", d...), 0, api.ErrNoSpace)
	for range 2 {
		b.hears(t, sent(1, 1, 1, len(b.s.Branches[0].Log)-1, d...), api.ErrNoSpace)
	}
	if imprint(b.d) != was {
		t.Error("P22.2: what was refused has written")
	}
	// The errors of chapter 19 come first.
	b.answers(t, load("nobody", word(r, 800)), 0, api.ErrStateNone)
	b.after(t, blame("a"), log("a"), pull(1, 1, 0), mix("a", "a"))
	b.reads(t, "b", "b")
	opened(t, b.d.Copy(), b.s)
	b.after(t, remove("a"))
	b.answers(t, sweep(), filled, api.OK)
	b.after(t, load("b", word(r, 800)))
	if filled < 5 {
		t.Errorf("only %d were put in", filled)
	}
}

// word is so many letters of which no two chunks are alike.
func word(r *rand.Rand, n int) string {
	b := make([]byte, n)
	for i := range b {
		b[i] = byte('a' + r.Intn(26))
	}
	return string(b)
}

// TestSweepWithNoSpace: there may be too little room for the first write, and, where there is nothing to write, for the store's Sweep. Then all is as it was.
func TestSweepWithNoSpace(t *testing.T) {
	first, second, fine := 0, 0, 0
	for seed := range int64(40) {
		r := rand.New(rand.NewSource(seed))
		b := newBench(t, 53)
		for range 60 {
			b.any(t, someCall(r, b.s))
			c := b.copy(t)
			left, went := gc.Sweep(c.s)
			ahead := c.s
			reply, e := c.do(t, sweep())
			switch {
			case e == api.OK:
				fine++
				if reply.Num != went || !same(c.s, left) {
					t.Fatalf("P22.2: sweep: %s, %s", show(reply), show(c.s))
				}
			case e != api.ErrNoSpace || !sameReply(reply, api.Reply{}) || !same(c.s, ahead):
				t.Fatalf("P22.2: sweep: %s, %d, %s", show(reply), e, show(c.s))
			case went > 0:
				first++
			default:
				second++
			}
			// Whatever became of it, the repository goes on.
			if len(c.s.Branches) > 0 {
				c.after(t, read(c.s.Branches[0].Name))
			}
			c.d.Crash("")
			opened(t, c.d, c.s)
		}
	}
	if first < 20 || second < 20 || fine < 20 {
		t.Errorf("P22.2: of the sweeps %d had no room at first, %d then, and %d were done", first, second, fine)
	}
}

// clash is two chunks of 64 letters that are unlike, and have one digest.
func clash(t *testing.T) (string, string) {
	t.Helper()
	r := rand.New(rand.NewSource(9))
	seen := map[uint32]string{}
	for range 1000000 {
		s := word(r, 64)
		if other, there := seen[digest.Sum(s)]; there && other != s {
			return other, s
		}
		seen[digest.Sum(s)] = s
	}
	t.Fatal("no two chunks with one digest were found")
	return "", ""
}

// holdingChunk is a text, in whose commit (of that number, the first one behind an empty tip) this chunk is the second one.
func holdingChunk(t *testing.T, s api.State, name string, chunk string) string {
	t.Helper()
	for ahead := range 64 {
		text := long("-", ahead) + chunk + long("-", 40)
		after, reply, e := state.Do(s, load(name, text))
		if e != api.OK {
			t.Fatalf("P19.3: %d", e)
		}
		for _, p := range pairsOf(t, after) {
			if p.Key == "c"+string([]byte{0, byte(reply.Num)}) && strings.Index(p.Value, chunk) == 64 {
				return text
			}
		}
	}
	t.Fatal("the chunk fits nowhere")
	return ""
}

// TestCollision: what comes with a chunk that has another one's digest is refused, and changes nothing, till that one is swept.
func TestCollision(t *testing.T) {
	one, two := clash(t)
	b := newBench(t, 600).after(t, create("a"), create("b"))
	b.after(t, load("a", holdingChunk(t, b.s, "a", one)))
	text := holdingChunk(t, b.s, "b", two)
	for range 2 {
		was := imprint(b.d)
		b.answers(t, load("b", text), 0, api.ErrCollision)
		b.answers(t, edit("b", ins(text)), 0, api.ErrCollision)
		b.hears(t, sent(1, 1, 2, 0, ins(text)), api.ErrCollision)
		if imprint(b.d) != was {
			t.Error("P22.2: what was refused has written")
		}
		b.reads(t, "b", "")
		b.answers(t, load("b", "\xff"), 0, api.ErrText)
		// A commit that is still there has its chunks, with or without a branch.
		b.after(t, sweep(), fork("c", 3), rename("c", "d"), remove("d"))
	}
	b.after(t, remove("a"))
	b.answers(t, load("b", text), 0, api.ErrCollision)
	b.answers(t, sweep(), 2, api.OK)
	b.answers(t, load("b", text), 4, api.OK)
	b.reads(t, "b", text)
	b.d.Crash("")
	opened(t, b.d, b.s)
}

// TestBranchNumbersEnd: no key tells of a branch's number above 65535: as there is no room for it in the store, ErrNoSpace is the answer, and all else goes on.
func TestBranchNumbersEnd(t *testing.T) {
	s := some(t, 600).s
	s.NextBranch = 65535
	b := holding(t, 600, s)
	b.answers(t, fork("d", 1), 65535, api.OK)
	b.hears(t, sent(1, 1, 65535, 0, ins("x")), api.OK)
	was := imprint(b.d)
	b.answers(t, fork("e", 1), 0, api.ErrNoSpace)
	b.answers(t, create("e"), 0, api.ErrNoSpace)
	b.answers(t, fork("d", 1), 0, api.ErrStateTwice)
	if imprint(b.d) != was {
		t.Error("P22.2: what was refused has written")
	}
	b.after(t, remove("d"), sweep(), load("a", "goes on"))
	b.answers(t, fork("e", 1), 0, api.ErrNoSpace)
	b.d.Crash("")
	opened(t, b.d, b.s)
}

// TestManyForks: the numbers of branches go on and on, though few branches are there.
func TestManyForks(t *testing.T) {
	b := newBench(t, 100).after(t, create("a"))
	for i := range 300 {
		b.answers(t, fork("b", 1), 2+i, api.OK)
		b.after(t, remove("b"))
		if i%20 == 19 {
			b.after(t, sweep())
		}
	}
}

// someState is a state that has a form, though no machine need have made it.
func someState(r *rand.Rand) api.State {
	num := func() int {
		return []int{1, 2, 3, 4, 5, 6, 299, 300, 301, 1000000}[r.Intn(1+r.Intn(10))]
	}
	nums := func(most int) []int {
		var l []int
		for range r.Intn(most + 1) {
			l = append(l, num())
		}
		return l
	}
	someDelta := func() []api.Op {
		of := ops(keep(1), keep(2), gone(1), ins("a"), ins("é€😀"), ins(long("b", 300)), keep(300))
		var d []api.Op
		for range r.Intn(4) {
			d = append(d, of[r.Intn(len(of))])
		}
		return d
	}
	var s api.State
	for n := 1; n < 8; n++ {
		if r.Intn(4) > 0 {
			s.Commits = append(s.Commits, api.Commit{Num: n, Parents: nums(2), Delta: someDelta(), Other: someDelta(), Client: r.Intn(9), Seq: r.Intn(4)})
		}
		if r.Intn(2) > 0 {
			s.Branches = append(s.Branches, api.Branch{Id: n, Name: string([]byte{byte('a' + r.Intn(4))}), Log: nums(5)})
		}
		if r.Intn(3) == 0 {
			s.Clients = append(s.Clients, api.Client{Client: n, Branch: num(), Seq: []int{1, 2, 99999, 100000}[r.Intn(4)]})
		}
	}
	s.NextCommit = []int{8, 9, 300, 301, 1000000}[r.Intn(5)]
	s.NextBranch = []int{8, 65535, 65536, 1000000}[r.Intn(4)]
	if len(s.Branches) > 0 && r.Intn(8) == 0 {
		s.Branches[0].Log = slices.Repeat([]int{1}, 300)
	}
	return s
}

// TestStatesOutOfPairs: whatever pairs there are that make a state, all calls end, none panics, and what they leave is opened as they left it.
func TestStatesOutOfPairs(t *testing.T) {
	for part := range int64(8) {
		t.Run(fmt.Sprint(part), func(t *testing.T) {
			t.Parallel()
			counts := map[api.Errno]int{}
			for seed := range int64(6) {
				outOfPairs(t, rand.New(rand.NewSource(part*100+seed)), counts)
			}
			for _, e := range []api.Errno{api.OK, api.ErrNoSpace, api.ErrStateFull, api.ErrStateNone, api.ErrMergeBase, api.ErrStateRange} {
				if counts[e] < 3 {
					t.Errorf("the error %d was met %d times", e, counts[e])
				}
			}
		})
	}
}

func outOfPairs(t *testing.T, r *rand.Rand, counts map[api.Errno]int) {
	t.Helper()
	s := someState(r)
	if _, e := record.Pairs(s); e != api.OK {
		t.Fatalf("P15.1: %s: %d", show(s), e)
	}
	b := holding(t, 800, s)
	for _, x := range strange(r, s) {
		counts[b.any(t, x)]++
	}
	for _, x := range each() {
		counts[b.any(t, x)]++
	}
	b.d.Crash("")
	opened(t, b.d, b.s)
}

// strange are calls that go along with all that a state has.
func strange(r *rand.Rand, s api.State) []any {
	var l []any
	for i, b := range s.Branches {
		other := s.Branches[r.Intn(len(s.Branches))].Name
		l = append(l, mix(b.Name, other), load(b.Name, "xay"), edit(b.Name, ins("q")), edit(b.Name, keep(1), ins("q")), edit(b.Name, keep(2)), fork(fmt.Sprint("new", i), r.Intn(8)))
		for kind := api.ReqRead; kind <= api.ReqTip; kind++ {
			l = append(l, api.Request{Kind: kind, Name: b.Name})
		}
		for rev := -1; rev < 5; rev++ {
			l = append(l, pull(1, b.Id, rev))
			for _, c := range append(s.Clients, api.Client{Client: 8, Branch: b.Id}) {
				l = append(l, sent(c.Client, c.Seq+1, b.Id, rev, ins("w")), sent(c.Client, c.Seq+1, c.Branch, rev, keep(r.Intn(3)+1), ins("w")))
			}
		}
	}
	r.Shuffle(len(l), func(i, j int) { l[i], l[j] = l[j], l[i] })
	return append(l, sweep(), create("new"))
}
