package record

import (
	"oxbow/api"
	"oxbow/delta"
	"oxbow/pack"
)

// take puts what a pair tells behind what a state has; false: no pair of that kind has such a value. Whether its key and its place are right is not looked at.
func take(s *api.State, p api.Pair) bool {
	if p.Key == "" {
		return false
	}
	r := reader{value: p.Value}
	switch p.Key[0] {
	case branchKey:
		s.Branches = append(s.Branches, api.Branch{Id: r.num(), Name: r.text(), Log: r.counted()})
	case commitKey:
		s.Commits = append(s.Commits, api.Commit{Num: r.num(), Parents: r.counted(), Delta: r.delta(), Other: r.delta(), Client: r.num(), Seq: r.num()})
	case nextKey:
		s.NextCommit, s.NextBranch = r.num(), r.num()
	case clientKey:
		s.Clients = append(s.Clients, api.Client{Client: r.num(), Branch: r.num(), Seq: r.num()})
	default:
		return false
	}
	return !r.failed && r.at == len(p.Value)
}

// A reader goes along a value. Behind the first piece that is not there it answers zero values alone.
type reader struct {
	value  string
	at     int
	failed bool
}

func (r *reader) num() int {
	if r.failed {
		return 0
	}
	n, at, e := pack.TakeNum(r.value, r.at)
	r.at, r.failed = at, e != api.OK
	return n
}

func (r *reader) text() string {
	if r.failed {
		return ""
	}
	s, at, e := pack.TakeText(r.value, r.at)
	r.at, r.failed = at, e != api.OK
	return s
}

// counted reads how many numbers there are, and these.
func (r *reader) counted() []int {
	var l []int
	for n := r.num(); len(l) < n && !r.failed; {
		l = append(l, r.num())
	}
	return l
}

func (r *reader) delta() []api.Op {
	form := r.text()
	if r.failed {
		return nil
	}
	d, e := delta.Decode(form)
	r.failed = e != api.OK
	return d
}
