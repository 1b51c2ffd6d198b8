package copies_test

import (
	"fmt"
	"slices"
	"testing"

	"oxbow/api"
	"oxbow/copies"
)

func sample() api.State {
	return api.State{NextCommit: 4, NextBranch: 3,
		Commits:  []api.Commit{{Num: 1}, {Num: 3, Parents: []int{1, 2}, Delta: []api.Op{{Kind: api.OpInsert, Text: "some"}}, Other: []api.Op{{Kind: api.OpKeep, N: 2}}, Client: 3, Seq: 4}},
		Branches: []api.Branch{{Id: 1, Name: "a", Log: []int{1, 3}}, {Id: 2, Name: "b"}},
		Clients:  []api.Client{{Client: 3, Branch: 1, Seq: 4}},
	}
}

// TestState: a copy is the same, and what is written into it does not show in what it was made of.
func TestState(t *testing.T) {
	s, want := sample(), fmt.Sprint(sample())
	c := copies.State(s)
	if fmt.Sprint(c) != want {
		t.Errorf("the copy is %v, want %s", c, want)
	}
	c.Commits[1].Parents[0], c.Commits[1].Delta[0].Text, c.Commits[1].Other[0].N = 9, "?", 9
	c.Branches[0].Log[0] = 9
	c.Commits[0].Num, c.Branches[1].Name, c.Clients[0].Seq = 9, "?", 9
	if fmt.Sprint(s) != want {
		t.Errorf("what was copied is %v, and was %s", s, want)
	}
	if c := copies.State(api.State{}); len(c.Commits)+len(c.Branches)+len(c.Clients) != 0 {
		t.Errorf("the copy of nothing is %v", c)
	}
}

func TestDelta(t *testing.T) {
	d := slices.Grow([]api.Op{{Kind: api.OpInsert, Text: "some"}, {Kind: api.OpKeep, N: 2}}, 5)
	c := copies.Delta(d)
	if !slices.Equal(c, d) {
		t.Errorf("the copy is %v, want %v", c, d)
	}
	c[0].Text = "?"
	c = append(c, api.Op{Kind: api.OpDelete, N: 1})
	if d[0].Text != "some" || d[:3][2] != (api.Op{}) || len(c) != 3 {
		t.Errorf("what was copied is %v", d[:3])
	}
	if c := copies.Delta(nil); len(c) != 0 {
		t.Errorf("the copy of nothing is %v", c)
	}
}

func TestEditor(t *testing.T) {
	sample := func() api.Editor {
		return api.Editor{Client: 1, Branch: 2, Rev: 3, Text: "some", Seq: 2, Pending: slices.Grow([]api.Edit{{Seq: 1, Delta: []api.Op{{Kind: api.OpInsert, Text: "so"}}}, {Seq: 2, Delta: []api.Op{{Kind: api.OpKeep, N: 4}}}}, 3)}
	}
	e, want := sample(), fmt.Sprint(sample())
	c := copies.Editor(e)
	if fmt.Sprint(c) != want {
		t.Errorf("the copy is %v, want %s", c, want)
	}
	c.Pending[0].Delta[0].Text, c.Pending[1].Seq, c.Text = "?", 9, "?"
	c.Pending = append(c.Pending, api.Edit{Seq: 3})
	if fmt.Sprint(e) != want || e.Pending[:3][2].Seq != 0 {
		t.Errorf("what was copied is %v, and was %s", e, want)
	}
	if c := copies.Editor(api.Editor{}); len(c.Pending) != 0 || c.Text != "" {
		t.Errorf("the copy of nothing is %v", c)
	}
}
