package world_test

import (
	"fmt"
	"math/rand"
	"slices"
	"testing"
	"unicode/utf8"

	"oxbow/api"
	"oxbow/delta"
	"oxbow/doc"
	"oxbow/state"
	"oxbow/trace"
)

func length(s string) int { return utf8.RuneCountInString(s) }

// branchOf is the branch of an Id, if it is there.
func branchOf(s api.State, id int) (api.Branch, bool) {
	at := slices.IndexFunc(s.Branches, func(b api.Branch) bool { return b.Id == id })
	if at < 0 {
		return api.Branch{}, false
	}
	return s.Branches[at], true
}

func textOf(s api.State, commit int) string {
	l, _ := state.Doc(s, commit)
	return doc.Text(l)
}

// holds holds P4, P6 and P23.5 of a world whose server is up, as far as they can be seen.
func (x *town) holds() {
	x.t.Helper()
	s := x.w.State()
	for _, e := range x.w.Editors() {
		b, there := branchOf(s, e.Branch)
		if !there {
			continue
		}
		text, f := textOf(s, b.Log[e.Rev]), api.OK
		for _, p := range e.Pending {
			if text, f = delta.Apply(text, p.Delta); f != api.OK {
				x.t.Fatalf("P23.5: the client %d: %d", e.Client, f)
			}
		}
		if text != e.Text {
			x.t.Fatalf("P4, P23.5: the client %d shows %s, but its revision and what waits make %s", e.Client, show(e.Text), show(text))
		}
	}
	in := map[int]int{}
	for _, c := range s.Commits {
		if c.Client == 0 {
			continue
		}
		in[c.Client]++
		if c.Seq != in[c.Client] {
			x.t.Fatalf("P4: of the client %d the edit %d stands where %d is to", c.Client, c.Seq, in[c.Client])
		}
		for _, e := range x.w.Editors() {
			if b, there := branchOf(s, e.Branch); e.Client == c.Client && there && !slices.Contains(b.Log, c.Num) {
				x.t.Fatalf("P23.5: the client %d's edit %d is not in its branch", c.Client, c.Seq)
			}
		}
	}
	for _, e := range x.w.Editors() {
		if n := e.Seq - len(e.Pending); in[e.Client] < n || in[e.Client] > n+1 {
			if _, there := branchOf(s, e.Branch); there {
				x.t.Fatalf("P4: the client %d made %d edits, %d of them wait, but %d are in", e.Client, e.Seq, len(e.Pending), in[e.Client])
			}
		}
	}
}

// orders holds P6: along each branch.
func (x *town) orders() {
	x.t.Helper()
	s := x.w.State()
	for _, b := range s.Branches {
		var l [][]api.Run
		for _, num := range b.Log {
			d, e := state.Doc(s, num)
			if e != api.OK {
				x.t.Fatalf("P6: %d of the branch %d: %d", num, b.Id, e)
			}
			l = append(l, d)
		}
		if i, j, fine := trace.Check(l); !fine {
			x.t.Fatalf("P6: the branch %d: %s and %s do not agree", b.Id, show(l[i]), show(l[j]))
		}
		if _, fine := trace.Order(l); !fine {
			x.t.Fatalf("P6, P24.4: the branch %d: there is no order of %s", b.Id, show(l))
		}
		x.noneComesBack(b, l)
	}
}

// noneComesBack holds that an atom that is gone from a branch does not come back.
func (x *town) noneComesBack(b api.Branch, l [][]api.Run) {
	x.t.Helper()
	type name struct {
		o   api.Origin
		num int
	}
	last := map[name]int{}
	for i, d := range l {
		for _, run := range d {
			for k := range length(run.Text) {
				n := name{run.Origin, run.From + k}
				if at, met := last[n]; met && at < i-1 {
					x.t.Fatalf("P6: the branch %d: the atom %d of %v is gone behind its revision %d, but in %d", b.Id, n.num, n.o, at, i)
				}
				last[n] = i
			}
		}
	}
}

// pending is how many edits wait in all.
func (x *town) pending() int {
	n := 0
	for _, e := range x.w.Editors() {
		n += len(e.Pending)
	}
	return n
}

// ends holds P5 and P23.4 of a world in which all are up, and all branches are there.
func (x *town) ends() {
	x.t.Helper()
	made := map[int]int{}
	for _, e := range x.w.Editors() {
		made[e.Client] = e.Seq
	}
	for range 2*x.pending() + 4 {
		x.after(round())
	}
	s := x.w.State()
	for _, e := range x.w.Editors() {
		b, there := branchOf(s, e.Branch)
		if !there {
			continue
		}
		tip := b.Log[len(b.Log)-1]
		if len(e.Pending) != 0 || e.Text != textOf(s, tip) || e.Rev != len(b.Log)-1 || e.Seq != made[e.Client] {
			x.t.Fatalf("P23.4: in the end %s, the tip reads %s", show(e), show(textOf(s, tip)))
		}
		in := 0
		for _, num := range b.Log {
			for _, c := range s.Commits {
				if c.Num == num && c.Client == e.Client {
					in++
				}
			}
		}
		if in != made[e.Client] {
			x.t.Fatalf("P23.4: of the client %d's %d edits %d are in", e.Client, made[e.Client], in)
		}
	}
	x.holds()
	x.orders()
}

// TestRoundsThatAreNeeded: each client's edits come in one a round, and no sooner.
func TestRoundsThatAreNeeded(t *testing.T) {
	for clients := 1; clients <= 8; clients++ {
		x := busy(t, clients)
		for n := 1; n <= clients; n++ {
			for range n {
				x.after(edit(n, append(ops(ins(fmt.Sprint(n))), keep(length(x.editor(n).Text)))...))
			}
		}
		for left := clients; left > 0; left-- {
			want := 0
			for n := range clients + 1 {
				want += max(0, n-(clients-left))
			}
			if x.pending() != want {
				t.Fatalf("behind %d rounds %d edits wait, want %d", clients-left, x.pending(), want)
			}
			x.after(round())
		}
		if x.pending() != 0 {
			t.Errorf("P23.4: %d edits wait", x.pending())
		}
		x.ends()
	}
}

// TestEndWithLettersAhead: letters that were lost, doubled and are out of order ahead of it, full up to the brim, do not keep the end from coming.
func TestEndWithLettersAhead(t *testing.T) {
	for seed := range int64(4) {
		r := rand.New(rand.NewSource(seed))
		x := busy(t, 8)
		for range 40 {
			n := 1 + r.Intn(8)
			e := x.editor(n)
			x.do(edit(n, someDelta(r, length(e.Text))...))
			x.after(tick(n))
			if l := len(x.m.net); l > 0 && r.Intn(2) == 0 {
				x.do(deliver(r.Intn(l)))
			}
		}
		for len(x.m.net) < 3000 {
			i := r.Intn(len(x.m.net))
			x.w.Do(double(i))
			x.m.net = append(x.m.net, x.m.net[i])
		}
		for range 40 {
			x.do(drop(r.Intn(len(x.m.net))))
			x.do(deliver(r.Intn(len(x.m.net))))
		}
		x.look("P23.2")
		x.ends()
	}
}

// someDelta is a delta of a text of so many code points, short enough that texts stay so.
func someDelta(r *rand.Rand, n int) []api.Op {
	var d []api.Op
	for n > 0 {
		k := 1 + r.Intn(n)
		switch r.Intn(5) {
		case 0:
			d = append(d, ins([]string{"a", "b", "é", "€", "😀", "xyz"}[r.Intn(6)]))
		case 1:
			d = append(d, gone(k))
			n -= k
		default:
			d = append(d, keep(k))
			n -= k
		}
	}
	if r.Intn(2) == 0 || len(d) == 0 {
		d = append(d, ins([]string{"1", "2", "é", "uvw"}[r.Intn(4)]))
	}
	return d
}

// A walker does acts at random.
type walker struct {
	*town
	r       *rand.Rand
	clients int
	fuses   bool // blown, and masks; else nobody's device stops
	counts  map[string]int
}

func (k *walker) someText() string {
	s, most := "", 12
	if k.m.tight {
		most = 60
	}
	for range k.r.Intn(most) {
		s += []string{"a", "b", "c", "é", "€", "😀"}[k.r.Intn(6)]
	}
	return s
}

// someName is mostly that of a branch which is there.
func (k *walker) someName() string {
	l := k.m.figures[0].has.state.Branches
	if len(l) == 0 || k.r.Intn(12) == 0 {
		return []string{"a", "b", "c", "d", "e", "", "A"}[k.r.Intn(7)]
	}
	return l[k.r.Intn(len(l))].Name
}

func (k *walker) someRequest() api.Act {
	s := k.m.figures[0].has.state
	name := k.someName()
	fresh := []string{"a", "b", "c", "d", "e"}[k.r.Intn(5)]
	switch k.r.Intn(16) {
	case 0, 1:
		return create(fresh)
	case 2, 3:
		return fork(fresh, k.r.Intn(s.NextCommit+1))
	case 4, 5, 6:
		return load(name, k.someText())
	case 7, 8:
		for _, b := range s.Branches {
			if b.Name == name {
				return write(name, someDelta(k.r, length(textOf(s, b.Log[len(b.Log)-1])))...)
			}
		}
	case 9, 10, 11:
		return mix(name, k.someName())
	case 12:
		return rename(name, fresh)
	case 13:
		if k.r.Intn(8) == 0 {
			return remove(name)
		}
	case 14:
		return sweep()
	}
	return ask(api.Request{Kind: []int{0, api.ReqRead, api.ReqBlame, api.ReqLog, api.ReqTip, 13}[k.r.Intn(6)], Name: name})
}

// someAct is an act at random, mostly one that is not refused.
func (k *walker) someAct() api.Act {
	party, n := 1+k.r.Intn(k.clients), 0
	if len(k.m.net) > 0 {
		n = k.r.Intn(len(k.m.net))
	}
	f := k.m.figures[party]
	anyone := k.r.Intn(k.clients + 1)
	if g := k.m.figures[anyone]; !g.up && k.r.Intn(3) > 0 {
		switch {
		case g.dead && k.r.Intn(3) > 0:
			return crash(anyone, k.someMask())
		case g.dead:
			return fuse(anyone, k.r.Intn(12)-1)
		case k.fuses && k.r.Intn(4) == 0:
			return fuse(anyone, 1+k.r.Intn(12))
		}
		return bringUp(anyone)
	}
	switch c := k.r.Intn(100); {
	case c < 20:
		return k.someRequest()
	case c < 36 && f.has.joined:
		return edit(party, someDelta(k.r, length(f.has.editor.Text))...)
	case c < 50 && !f.has.joined:
		return join(party, k.someName())
	case c < 50:
		return tick(party)
	case c < 82:
		return deliver(n)
	case c < 84:
		return drop(n)
	case c < 86:
		return double(n)
	case c < 90 && k.fuses:
		return fuse(anyone, 1+k.r.Intn(1+k.r.Intn(80)))
	case c < 91 && k.fuses:
		return fuse(anyone, k.r.Intn(3)-2)
	case c < 93:
		return crash(anyone, k.someMask())
	case c < 94:
		return bringUp(anyone)
	case c < 96 && !k.fuses:
		return round()
	case c < 98:
		return api.Act{Kind: k.r.Intn(11), Party: k.r.Intn(k.clients+3) - 1, N: k.r.Intn(4) - 2, Req: api.Request{Name: "a", Kind: k.r.Intn(13)}}
	}
	return tick(party)
}

func (k *walker) someMask() string {
	b := make([]byte, k.r.Intn(40))
	k.r.Read(b)
	return string(b)
}

// settle has all be up, without fuses, and deletes no more: then the end comes.
func (k *walker) settle() {
	k.t.Helper()
	for n := range k.clients + 1 {
		if k.m.figures[n].up {
			k.after(fuse(n, -1))
			continue
		}
		k.after(crash(n, k.someMask()), bringUp(n))
	}
}

// TestWalks: acts at random, held to the chapter one by one, to their end.
func TestWalks(t *testing.T) {
	for _, c := range []struct {
		what    string
		sectors int
		shelf   int
		fuses   bool
		often   []string // what is to come to be several times: a Kind and what is answered
	}{
		{"in peace", 2000, 100, false, []string{"1/0", "2/0", "3/0", "4/0", "5/0", "6/0", "7/0", "8/0", "9/0", "10/0", "11/0", "1/3", "2/3", "3/3", "4/3", "5/3", "2/230", "3/230", "4/230", "3/201", "5/171", "5/192", "5/196", "5/197", "10/1"}},
		{"with fuses", 2000, 100, true, []string{"1/0", "3/0", "5/0", "10/0", "10/3"}},
		{"with little room", 60, 8, true, []string{"1/0", "1/4", "3/0", "3/4", "5/0", "5/4", "10/0"}},
	} {
		t.Run(c.what, func(t *testing.T) {
			t.Parallel()
			counts := map[string]int{}
			for seed := range int64(40) {
				r := rand.New(rand.NewSource(seed))
				clients := 1 + r.Intn(8)
				k := &walker{newTown(t, c.sectors, c.shelf, clients), r, clients, c.fuses, counts}
				k.m.tight = c.sectors < 100
				k.walk(250)
			}
			for _, often := range c.often {
				if counts[often] < 5 {
					t.Errorf("%s came to be only %d times", often, counts[often])
				}
			}
			t.Log(counts)
		})
	}
}

func (k *walker) walk(acts int) {
	k.t.Helper()
	k.after(create("a"), load("a", "abc"))
	for i := range acts {
		a := k.someAct()
		if a.Kind == api.DoRound && slices.ContainsFunc(k.m.figures, func(f *figure) bool { return f.fused }) {
			continue
		}
		_, e := k.do(a)
		k.counts[fmt.Sprint(a.Kind, "/", e)]++
		if i%10 == 0 && k.w.Up(0) {
			k.holds()
		}
		for len(k.m.net) > 80 {
			k.after(drop(k.r.Intn(len(k.m.net))))
		}
	}
	k.settle()
	k.holds()
	k.orders()
	if !k.m.tight {
		k.ends()
	}
}
