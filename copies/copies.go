// Package copies makes copies that share no memory with what they were made of, for layers that keep or answer what they were given.
package copies

import (
	"slices"
	"strings"

	"oxbow/api"
)

// State is a copy of a state, down to its last list and text.
func State(s api.State) api.State {
	s.Commits = slices.Clone(s.Commits)
	for i := range s.Commits {
		c := &s.Commits[i]
		c.Parents, c.Delta, c.Other = slices.Clone(c.Parents), Delta(c.Delta), Delta(c.Other)
	}
	s.Branches = slices.Clone(s.Branches)
	for i := range s.Branches {
		b := &s.Branches[i]
		b.Name, b.Log = strings.Clone(b.Name), slices.Clone(b.Log)
	}
	s.Clients = slices.Clone(s.Clients)
	return s
}

// Delta is a copy of a delta, with its texts.
func Delta(d []api.Op) []api.Op {
	d = slices.Clone(d)
	for i := range d {
		d[i].Text = strings.Clone(d[i].Text)
	}
	return d
}

// Editor is a copy of an editor, with all that waits.
func Editor(e api.Editor) api.Editor {
	e.Text = strings.Clone(e.Text)
	e.Pending = slices.Clone(e.Pending)
	for i := range e.Pending {
		e.Pending[i].Delta = Delta(e.Pending[i].Delta)
	}
	return e
}
