package state

import (
	"slices"
	"strings"
	"unicode/utf8"

	"oxbow/api"
	"oxbow/dag"
	"oxbow/delta"
	"oxbow/diff"
	"oxbow/merge"
)

// A deed does what a request asks for. b is the branch that the request names: nil, where it is to be a new one.
type deed func(m *machine, b *api.Branch, r api.Request) (api.Reply, api.Errno)

// deeds are what the kinds of requests ask for.
func deeds() map[int]deed {
	return map[int]deed{
		api.ReqCreate: (*machine).create,
		api.ReqImport: (*machine).load,
		api.ReqEdit:   (*machine).edit,
		api.ReqFork:   (*machine).fork,
		api.ReqMerge:  (*machine).merge,
		api.ReqRename: (*machine).rename,
		api.ReqDelete: (*machine).remove,
		api.ReqRead:   (*machine).read,
		api.ReqBlame:  (*machine).blame,
		api.ReqLog:    (*machine).log,
		api.ReqTip:    (*machine).tell,
	}
}

// do does a request. With an error the machine is of no use any more.
func (m *machine) do(r api.Request) (api.Reply, api.Errno) {
	act, known := deeds()[r.Kind]
	if !known {
		return api.Reply{}, api.ErrArg
	}
	if !isName(r.Name) {
		return api.Reply{}, api.ErrStateName
	}
	b := m.named(r.Name)
	isNew := r.Kind == api.ReqCreate || r.Kind == api.ReqFork
	if isNew && b != nil {
		return api.Reply{}, api.ErrStateTwice
	}
	if !isNew && b == nil {
		return api.Reply{}, api.ErrStateNone
	}
	reply, e := act(m, b, r)
	reply.Kind = r.Kind
	return reply, e
}

func (m *machine) create(_ *api.Branch, r api.Request) (api.Reply, api.Errno) {
	if m.crowded() || m.full() {
		return api.Reply{}, api.ErrStateFull
	}
	return api.Reply{Num: m.found(r.Name, m.add(api.Commit{}))}, api.OK
}

func (m *machine) load(b *api.Branch, r api.Request) (api.Reply, api.Errno) {
	if !utf8.ValidString(r.Text) {
		return api.Reply{}, api.ErrText
	}
	if utf8.RuneCountInString(r.Text) > api.MaxText {
		return api.Reply{}, api.ErrStateTooLong
	}
	d, _ := diff.Diff(m.text(tip(b)), r.Text)
	num, e := m.grow(b, api.Commit{Delta: d})
	return api.Reply{Num: num}, e
}

func (m *machine) edit(b *api.Branch, r api.Request) (api.Reply, api.Errno) {
	base, e := delta.Base(r.Delta)
	if e != api.OK {
		return api.Reply{}, e
	}
	if base != m.length(tip(b)) {
		return api.Reply{}, api.ErrDeltaLength
	}
	d, _ := delta.Normal(r.Delta)
	num, e := m.grow(b, api.Commit{Delta: d})
	return api.Reply{Num: num}, e
}

func (m *machine) fork(_ *api.Branch, r api.Request) (api.Reply, api.Errno) {
	if _, there := m.commit(r.Num); !there {
		return api.Reply{}, api.ErrStateNone
	}
	if m.crowded() {
		return api.Reply{}, api.ErrStateFull
	}
	return api.Reply{Num: m.found(r.Name, r.Num)}, api.OK
}

func (m *machine) merge(b *api.Branch, r api.Request) (api.Reply, api.Errno) {
	if !isName(r.Other) {
		return api.Reply{}, api.ErrStateName
	}
	other := m.named(r.Other)
	if other == nil {
		return api.Reply{}, api.ErrStateNone
	}
	if slices.Contains(m.above(tip(b)), tip(other)) {
		return api.Reply{Num: tip(b)}, api.OK
	}
	c, e := m.merged(tip(b), tip(other))
	if e != api.OK {
		return api.Reply{}, e
	}
	num, e := m.grow(b, c)
	return api.Reply{Num: num}, e
}

// merged is the commit that merges two others, but for its number and its first parent.
func (m *machine) merged(first int, second int) (api.Commit, api.Errno) {
	common, _ := dag.Common(m.links(), first, second)
	if len(common) == 0 {
		return api.Commit{}, api.ErrMergeBase
	}
	if len(common) > 1 {
		return api.Commit{}, api.ErrMergeMany
	}
	all := m.documents(first, second)
	both, e := merge.Docs(all[common[0]], all[first], all[second], first, second)
	if e != api.OK {
		// Of a machine's own documents it can only be that what comes is too long.
		return api.Commit{}, api.ErrStateTooLong
	}
	d, _ := merge.Delta(all[first], both)
	other, _ := merge.Delta(all[second], both)
	return api.Commit{Parents: []int{second}, Delta: d, Other: other}, api.OK
}

func (m *machine) rename(b *api.Branch, r api.Request) (api.Reply, api.Errno) {
	if !isName(r.Other) {
		return api.Reply{}, api.ErrStateName
	}
	if m.named(r.Other) != nil {
		return api.Reply{}, api.ErrStateTwice
	}
	b.Name = strings.Clone(r.Other)
	return api.Reply{Num: b.Id}, api.OK
}

func (m *machine) remove(b *api.Branch, _ api.Request) (api.Reply, api.Errno) {
	id := b.Id
	m.Branches = slices.DeleteFunc(m.Branches, func(b api.Branch) bool { return b.Id == id })
	return api.Reply{Num: id}, api.OK
}

func (m *machine) read(b *api.Branch, _ api.Request) (api.Reply, api.Errno) {
	return api.Reply{Num: tip(b), Text: m.text(tip(b))}, api.OK
}

func (m *machine) blame(b *api.Branch, _ api.Request) (api.Reply, api.Errno) {
	return api.Reply{Num: tip(b), Runs: m.documents(tip(b))[tip(b)]}, api.OK
}

func (m *machine) log(b *api.Branch, _ api.Request) (api.Reply, api.Errno) {
	return api.Reply{Num: tip(b), Log: m.above(tip(b))}, api.OK
}

func (m *machine) tell(b *api.Branch, _ api.Request) (api.Reply, api.Errno) {
	return api.Reply{Num: tip(b)}, api.OK
}
