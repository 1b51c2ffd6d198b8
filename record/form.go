package record

import (
	"oxbow/api"
	"oxbow/delta"
)

const (
	maxNum     = 1000000 // the greatest number of a commit or of a branch
	maxKey     = 65535   // the greatest one that a key can tell
	maxSeq     = 100000  // the greatest number of a client's edit
	maxParents = 2
	maxLog     = 300
)

// hasForm tells whether a state has a form, and keys that tell all its numbers apart.
func hasForm(s api.State) bool {
	return within(1, maxNum, s.NextCommit, s.NextBranch) &&
		row(s.Commits, api.MaxCommits, min(s.NextCommit-1, maxKey), numOf, commitHasForm) &&
		row(s.Branches, api.MaxBranches, min(s.NextBranch-1, maxKey), idOf, branchHasForm) &&
		row(s.Clients, api.MaxClients, api.MaxClients, clientOf, clientHasForm)
}

func numOf(c api.Commit) int    { return c.Num }
func idOf(b api.Branch) int     { return b.Id }
func clientOf(c api.Client) int { return c.Client }

// row tells whether there are at most so many, rising by their numbers from 1 to last, each of them right.
func row[T any](l []T, most int, last int, num func(T) int, right func(T) bool) bool {
	if len(l) > most {
		return false
	}
	ahead := 0
	for _, x := range l {
		n := num(x)
		if n <= ahead || n > last || !right(x) {
			return false
		}
		ahead = n
	}
	return true
}

func commitHasForm(c api.Commit) bool {
	return len(c.Parents) <= maxParents && within(1, maxNum, c.Parents...) &&
		delta.Check(c.Delta) == api.OK && delta.Check(c.Other) == api.OK &&
		within(0, api.MaxClients, c.Client) && within(0, maxSeq, c.Seq)
}

func branchHasForm(b api.Branch) bool {
	return isName(b.Name) && len(b.Log) <= maxLog && within(1, maxNum, b.Log...)
}

func clientHasForm(c api.Client) bool {
	return within(1, maxNum, c.Branch) && within(1, maxSeq, c.Seq)
}

func isName(s string) bool {
	if len(s) < 1 || len(s) > api.MaxName {
		return false
	}
	for _, c := range []byte(s) {
		if (c < 'a' || c > 'z') && (c < '0' || c > '9') {
			return false
		}
	}
	return true
}

// within tells whether all these numbers are from low to high.
func within(low int, high int, nums ...int) bool {
	for _, n := range nums {
		if n < low || n > high {
			return false
		}
	}
	return true
}
