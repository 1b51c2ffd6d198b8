package client_test

import (
	"math/rand"
	"slices"
	"testing"
	"unicode/utf8"

	"oxbow/api"
	"oxbow/client"
	"oxbow/doc"
	"oxbow/state"
)

// A letter is a message under way: to the server (0), or to a client.
type letter struct {
	to int
	m  api.Message
}

// A scene is a repository, its editors, and what is under way between them.
type scene struct {
	t       *testing.T
	s       api.State
	editors []api.Editor
	net     []letter
	made    map[int]int // how many edits each client has made
}

// played is a scene with the branches a and b, and editors on them.
func played(t *testing.T, on ...int) *scene {
	t.Helper()
	c := &scene{t: t, s: state.New(), made: map[int]int{}}
	c.does(api.Request{Kind: api.ReqCreate, Name: "a"}, api.OK)
	c.does(api.Request{Kind: api.ReqImport, Name: "a", Text: "abc"}, api.OK)
	c.does(api.Request{Kind: api.ReqFork, Name: "b", Num: 2}, api.OK)
	for i, branch := range on {
		c.editors = append(c.editors, c.joined(i+1, branch))
	}
	return c
}

func (c *scene) does(r api.Request, allowed ...api.Errno) {
	c.t.Helper()
	s, _, f := state.Do(c.s, r)
	if !slices.Contains(allowed, f) {
		c.t.Errorf("P19.3: Do(%s): %d", show(r), f)
	}
	if f == api.OK {
		c.s = s
	}
}

func (c *scene) branch(id int) api.Branch {
	return c.s.Branches[slices.IndexFunc(c.s.Branches, func(b api.Branch) bool { return b.Id == id })]
}

// text is that of a revision of a branch.
func (c *scene) text(id int, rev int) string {
	l, _ := state.Doc(c.s, c.branch(id).Log[rev])
	return doc.Text(l)
}

func (c *scene) joined(num int, branch int) api.Editor {
	c.t.Helper()
	last := len(c.branch(branch).Log) - 1
	e, f := client.Begin(num, branch, last, c.text(branch, last))
	if f != api.OK {
		c.t.Fatalf("P20.1: %d", f)
	}
	return e
}

func (c *scene) edit(i int, d []api.Op) {
	c.t.Helper()
	e, f := client.Edit(c.editors[i], d)
	if f == api.OK {
		c.editors[i] = e
		c.made[e.Client]++
	} else if f != api.ErrClientFull {
		c.t.Errorf("P20.2: Edit(%s, %s): %d", show(c.editors[i]), show(d), f)
	}
}

func (c *scene) tick(i int) {
	for _, m := range client.Says(c.editors[i]) {
		c.net = append(c.net, letter{0, m})
	}
}

func (c *scene) deliver(i int) {
	c.t.Helper()
	l := c.net[i]
	c.net = slices.Delete(slices.Clone(c.net), i, i+1)
	if l.to != 0 {
		c.hears(l)
		return
	}
	if l.m.Kind == api.MsgEdit {
		s, f := state.Edit(c.s, l.m)
		if f == api.OK {
			c.s = s
		} else if f != api.ErrStateOld {
			c.t.Errorf("P19.4: Edit(%s): %d", show(l.m), f)
		}
		return
	}
	revs, f := state.Revs(c.s, l.m.Branch, l.m.Rev)
	if f != api.OK {
		c.t.Errorf("P19.5: Revs of %s: %d", show(l.m), f)
	}
	for _, v := range revs {
		m := api.Message{Kind: api.MsgNext, Branch: l.m.Branch, Client: l.m.Client, Rev: v.Rev, Who: v.Client, Seq: v.Seq, Delta: v.Delta}
		c.net = append(c.net, letter{l.m.Client, m})
	}
}

// hears has a client take a revision in: one that it knows, or that is too far ahead, is of no use to it.
func (c *scene) hears(l letter) {
	c.t.Helper()
	i := l.to - 1
	e, f := holdNext(c.t, c.editors[i], l.m)
	if f == api.OK {
		c.editors[i] = e
	} else if f != api.ErrStateOld && f != api.ErrStateGap {
		c.t.Errorf("P20.3: Next(%s, %s): %d", show(c.editors[i]), show(l.m), f)
	}
}

// round has all say what they have to say, and all be delivered.
func (c *scene) round() {
	c.t.Helper()
	for i := range c.editors {
		c.tick(i)
	}
	for len(c.net) > 0 {
		c.deliver(0)
	}
}

// hold holds P20.6 and P4 of all editors.
func (c *scene) hold() {
	c.t.Helper()
	for _, e := range c.editors {
		shows(c.t, e, c.text(e.Branch, e.Rev))
	}
	in := map[int]int{}
	for _, m := range c.s.Commits {
		if m.Client == 0 {
			continue
		}
		in[m.Client]++
		if m.Seq != in[m.Client] {
			c.t.Errorf("P4: the client %d's edit %d stands where %d should", m.Client, m.Seq, in[m.Client])
		}
		if e := c.editors[m.Client-1]; !slices.Contains(c.branch(e.Branch).Log, m.Num) {
			c.t.Errorf("P4: the client %d's edit %d is not in its branch", m.Client, m.Seq)
		}
	}
	for _, e := range c.editors {
		if n := c.made[e.Client]; in[e.Client] > n || in[e.Client]+len(e.Pending) < n {
			c.t.Errorf("P4: of the client %d's %d edits %d are in, %d wait", e.Client, n, in[e.Client], len(e.Pending))
		}
	}
}

// ends holds P5: at most 2 P + 4 rounds bring all in.
func (c *scene) ends() {
	c.t.Helper()
	pending := 0
	for _, e := range c.editors {
		pending += len(e.Pending)
	}
	for range 2*pending + 4 {
		c.round()
	}
	c.hold()
	for _, e := range c.editors {
		last := len(c.branch(e.Branch).Log) - 1
		if len(e.Pending) > 0 || e.Rev != last || e.Text != c.text(e.Branch, last) {
			c.t.Errorf("P5: %s at the end, the branch has %s", show(e), show(c.text(e.Branch, last)))
		}
	}
	in := 0
	for _, m := range c.s.Commits {
		in += min(1, m.Client)
	}
	made := 0
	for _, n := range c.made {
		made += n
	}
	if in != made {
		c.t.Errorf("P5: %d edits were made, %d are in", made, in)
	}
}

// TestExamplesOfTheWhole: DOC.md's examples 6 to 8.
func TestExamplesOfTheWhole(t *testing.T) {
	c := played(t, 1)
	c.edit(0, ops(keep(1), ins("1"), keep(2)))
	c.does(api.Request{Kind: api.ReqEdit, Name: "a", Delta: ops(keep(1), ins("2"), keep(2))}, api.OK)
	if s := c.editors[0].Text; s != "a1bc" {
		t.Errorf("example 6: %s", s)
	}
	c.round()
	if s := c.editors[0].Text; s != "a21bc" || c.text(1, 3) != s {
		t.Errorf("example 6: %s", s)
	}
	c.edit(0, ops(ins("x"), keep(5)))
	c.edit(0, ops(keep(6), ins("y")))
	c.round()
	if len(c.editors[0].Pending) != 1 || c.text(1, 4) != "xa21bc" || len(c.branch(1).Log) != 5 {
		t.Errorf("example 7: %s", show(c.editors[0]))
	}
	c.round()
	if len(c.editors[0].Pending) != 0 || c.text(1, 5) != "xa21bcy" {
		t.Errorf("example 7: %s", show(c.editors[0]))
	}
	c.edit(0, ops(gone(7)))
	c.tick(0)
	c.net = append([]letter{c.net[0]}, c.net...)
	c.deliver(0)
	was := c.s
	if s, f := state.Edit(c.s, c.net[0].m); f != api.ErrStateOld || len(s.Commits) != 0 {
		t.Errorf("example 8: %d", f)
	}
	c.deliver(0)
	if len(c.s.Commits) != len(was.Commits) {
		t.Errorf("example 8: it is in twice")
	}
	c.ends()
	c.hold()
}

// someAct does something at random to a scene.
func (c *scene) someAct(r *rand.Rand) {
	c.t.Helper()
	name := []string{"a", "b"}[r.Intn(2)]
	branch := map[string]int{"a": 1, "b": 2}[name]
	last := c.text(branch, len(c.branch(branch).Log)-1)
	i := r.Intn(len(c.editors))
	at := 0
	if len(c.net) > 0 {
		at = r.Intn(len(c.net))
	}
	switch n := r.Intn(20); {
	case n < 5:
		c.edit(i, someDelta(r, utf8.RuneCountInString(c.editors[i].Text)))
	case n < 9:
		c.tick(i)
	case n < 16 && len(c.net) > 0:
		c.deliver(at)
	case n == 16 && len(c.net) > 0:
		c.net = slices.Delete(slices.Clone(c.net), at, at+1)
	case n == 17 && len(c.net) > 0:
		c.net = append(slices.Clone(c.net), c.net[at])
	case n == 18:
		c.does(api.Request{Kind: api.ReqEdit, Name: name, Delta: someDelta(r, utf8.RuneCountInString(last))}, api.OK, api.ErrStateFull)
	case n == 19 && r.Intn(3) == 0:
		other := map[string]string{"a": "b", "b": "a"}[name]
		c.does(api.Request{Kind: api.ReqMerge, Name: name, Other: other}, api.OK, api.ErrMergeMany, api.ErrStateTooLong)
	}
}

// TestScenes: editors and branches at random, with letters that are lost, doubled and delivered in any order. (Texts stay short.)
func TestScenes(t *testing.T) {
	const scenes, acts = 150, 200
	commits := 0
	for seed := range scenes {
		r := rand.New(rand.NewSource(int64(seed)))
		on := []int{1, 1, 2, 2, 1, 2, 1, 1}[:1+r.Intn(8)]
		c := played(t, on...)
		for i := range acts {
			if c.someAct(r); i%10 == 0 {
				c.hold()
			}
			if len(c.net) > 60 {
				c.net = c.net[:30]
			}
			if t.Failed() {
				t.Fatalf("in the scene %d, at the act %d", seed, i)
			}
		}
		c.net = nil
		if c.ends(); t.Failed() {
			t.Fatalf("at the end of the scene %d", seed)
		}
		commits += len(c.s.Commits)
	}
	if commits < 30*scenes {
		t.Errorf("only %d commits were made in all scenes", commits)
	}
}

// TestSceneThatComesBack: an editor that falls and comes back from its form goes on as if nothing had been.
func TestSceneThatComesBack(t *testing.T) {
	for seed := range 40 {
		r := rand.New(rand.NewSource(int64(seed)))
		c := played(t, 1, 1, 2)
		for range 120 {
			c.someAct(r)
			i := r.Intn(3)
			form, f := client.Encode(c.editors[i])
			back, g := client.Decode(form)
			if f != api.OK || g != api.OK || !same(back, c.editors[i]) {
				t.Fatalf("P20.6: %s, %d, %d, want %s", show(back), f, g, show(c.editors[i]))
			}
			c.editors[i] = back
		}
		c.net = nil
		if c.ends(); t.Failed() {
			t.Fatalf("in the scene %d", seed)
		}
	}
}
