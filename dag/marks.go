package dag

import "oxbow/api"

const maxParents = 2 // a merge has two, every other commit fewer

// Marks are numbers of commits.
type marks map[int]struct{}

func (m marks) has(n int) bool {
	_, is := m[n]
	return is
}

func (m marks) put(l ...int) {
	for _, n := range l {
		m[n] = struct{}{}
	}
}

func (m marks) drop(l ...int) {
	for _, n := range l {
		delete(m, n)
	}
}

// and is what both have marked.
func (m marks) and(other marks) marks {
	both := marks{}
	for n := range m {
		if other.has(n) {
			both.put(n)
		}
	}
	return both
}

// numbers marks the Nums of links, if they are a graph.
func numbers(l []api.Link) (marks, api.Errno) {
	ahead := marks{}
	last := 0
	// Nums that rise from 1 to 300 are no more than 300.
links:
	for _, link := range l {
		if link.Num <= last || link.Num > api.MaxCommits || len(link.Parents) > maxParents {
			break links
		}
		for i, p := range link.Parents {
			if !ahead.has(p) || i > 0 && p == link.Parents[i-1] {
				break links
			}
		}
		ahead.put(link.Num)
		last = link.Num
	}
	if len(ahead) < len(l) {
		return nil, api.ErrDagForm
	}
	return ahead, api.OK
}

// rising are the marked numbers in the order of links that are a graph.
func rising(l []api.Link, m marks) []int {
	var nums []int
	for _, link := range l {
		if m.has(link.Num) {
			nums = append(nums, link.Num)
		}
	}
	return nums
}
