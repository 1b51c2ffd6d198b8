package state

import (
	"slices"
	"strings"

	"oxbow/api"
)

// A machine is a state that is asked, or, if it is a copy, turned into the next one.
type machine struct{ api.State }

// commit is the commit of a number, if there is one.
func (m *machine) commit(num int) (api.Commit, bool) {
	at := slices.IndexFunc(m.Commits, func(c api.Commit) bool { return c.Num == num })
	if at < 0 {
		return api.Commit{}, false
	}
	return m.Commits[at], true
}

// named is the branch of a name, numbered that of an Id; nil: there is none.
func (m *machine) named(name string) *api.Branch {
	return m.branch(func(b api.Branch) bool { return b.Name == name })
}

func (m *machine) numbered(id int) *api.Branch {
	return m.branch(func(b api.Branch) bool { return b.Id == id })
}

func (m *machine) branch(wanted func(api.Branch) bool) *api.Branch {
	at := slices.IndexFunc(m.Branches, wanted)
	if at < 0 {
		return nil
	}
	return &m.Branches[at]
}

// tip is the last commit of a branch; 0, which is none, of a Log that no machine made.
func tip(b *api.Branch) int {
	if len(b.Log) == 0 {
		return 0
	}
	return b.Log[len(b.Log)-1]
}

func isRev(b *api.Branch, rev int) bool { return 0 <= rev && rev < len(b.Log) }

func isName(s string) bool {
	if len(s) < 1 || len(s) > api.MaxName {
		return false
	}
	for _, c := range []byte(s) {
		if (c < 'a' || c > 'z') && (c < '0' || c > '9') {
			return false
		}
	}
	return true
}

// full tells whether there can be no more commits, crowded whether there can be no more branches.
func (m *machine) full() bool    { return m.NextCommit > api.MaxCommits }
func (m *machine) crowded() bool { return len(m.Branches) >= api.MaxBranches }

// add gives a commit the next number, and has it.
func (m *machine) add(c api.Commit) int {
	c.Num = m.NextCommit
	m.NextCommit++
	m.Commits = append(m.Commits, c)
	return c.Num
}

// found begins a branch with a commit, and tells its Id.
func (m *machine) found(name string, first int) int {
	id := m.NextBranch
	m.NextBranch++
	m.Branches = append(m.Branches, api.Branch{Id: id, Name: strings.Clone(name), Log: []int{first}})
	return id
}

// grow puts a commit behind a branch's tip, and tells its number. A merge comes with its second parent.
func (m *machine) grow(b *api.Branch, c api.Commit) (int, api.Errno) {
	if m.full() {
		return 0, api.ErrStateFull
	}
	c.Parents = slices.Concat([]int{tip(b)}, c.Parents)
	num := m.add(c)
	b.Log = append(b.Log, num)
	return num, api.OK
}
