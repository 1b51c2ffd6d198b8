package state

import (
	"slices"

	"oxbow/api"
	"oxbow/dag"
	"oxbow/delta"
	"oxbow/doc"
	"oxbow/merge"
)

// links are the commits, as a graph sees them.
func (m *machine) links() []api.Link {
	l := make([]api.Link, 0, len(m.Commits))
	for _, c := range m.Commits {
		l = append(l, api.Link{Num: c.Num, Parents: c.Parents})
	}
	return l
}

// above are a commit and all that are ahead of it.
func (m *machine) above(num int) []int {
	l, _ := dag.Above(m.links(), num)
	return l
}

// documents are those of some commits, and of all that are ahead of them.
func (m *machine) documents(nums ...int) map[int][]api.Run {
	all := map[int][]api.Run{}
	for _, num := range nums {
		// These rise, so that parents come ahead of what is made of them.
		for _, n := range m.above(num) {
			if _, made := all[n]; !made {
				c, _ := m.commit(n)
				all[n] = m.document(c, all)
			}
		}
	}
	return all
}

// document is that of a commit, made of those ahead of it. What a machine has made fits, so that no layer below refuses it.
func (m *machine) document(c api.Commit, ahead map[int][]api.Run) []api.Run {
	if len(c.Parents) == 2 {
		first, second := c.Parents[0], c.Parents[1]
		var base []api.Run
		common, _ := dag.Common(m.links(), first, second)
		if len(common) == 1 {
			base = ahead[common[0]]
		}
		l, _ := merge.Docs(base, ahead[first], ahead[second], first, second)
		return l
	}
	var from []api.Run
	if len(c.Parents) == 1 {
		from = ahead[c.Parents[0]]
	}
	l, _ := doc.Apply(from, c.Delta, originOf(c))
	return l
}

// originOf is the origin of what a commit puts in.
func originOf(c api.Commit) api.Origin {
	if c.Client != 0 {
		return api.Origin{Client: c.Client, Seq: c.Seq}
	}
	return api.Origin{Client: 0, Seq: c.Num}
}

// length is how long the document of a commit is. As a commit's Delta, a merge's too, leads to its document, no document need be made for that.
func (m *machine) length(num int) int {
	c, _ := m.commit(num)
	n, _ := delta.Target(c.Delta)
	return n
}

// text is that of the document of a commit: likewise what the Deltas from one first parent to the next make.
func (m *machine) text(num int) string {
	var way [][]api.Op
	for range m.Commits { // no way is longer
		c, there := m.commit(num)
		if !there {
			break
		}
		way = append(way, c.Delta)
		if len(c.Parents) == 0 {
			break
		}
		num = c.Parents[0]
	}
	s := ""
	for _, d := range slices.Backward(way) {
		s, _ = delta.Apply(s, d)
	}
	return s
}
