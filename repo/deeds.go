package repo

import (
	"oxbow/api"
	"oxbow/gc"
	"oxbow/record"
	"oxbow/state"
)

// A deed does what a request asks for, an ear what a message does.
type (
	deed func(q api.Request) (api.Reply, api.Errno)
	ear  func(m api.Message) ([]api.Message, api.Errno)
)

// request has the machine do a request.
func (r *Repo) request(q api.Request) (api.Reply, api.Errno) {
	behind, reply, e := state.Do(r.state, q)
	if e != api.OK {
		return api.Reply{}, e
	}
	if e := r.turn(behind); e != api.OK {
		return api.Reply{}, e
	}
	return reply, api.OK
}

// sweep lets commits go that no branch needs, and then the chunks that were theirs alone. Cut off between both, only chunks are left that no value has.
func (r *Repo) sweep(q api.Request) (api.Reply, api.Errno) {
	left, went := gc.Sweep(r.state)
	if e := r.turn(left); e != api.OK {
		return api.Reply{}, e
	}
	if _, e := r.store.Sweep(); e != api.OK {
		return api.Reply{}, e
	}
	return api.Reply{Kind: q.Kind, Num: went}, api.OK
}

// edit takes a client's edit in. One that came already is no fault: its letter may have been doubled, or said again.
func (r *Repo) edit(m api.Message) ([]api.Message, api.Errno) {
	behind, e := state.Edit(r.state, m)
	if e == api.ErrStateOld {
		return nil, api.OK
	}
	if e != api.OK {
		return nil, e
	}
	return nil, r.turn(behind)
}

// pull tells a client the revisions behind the one that it knows.
func (r *Repo) pull(m api.Message) ([]api.Message, api.Errno) {
	revs, e := state.Revs(r.state, m.Branch, m.Rev)
	if e != api.OK {
		return nil, e
	}
	if m.Client < 1 || m.Client > api.MaxClients {
		return nil, api.ErrArg
	}
	var l []api.Message
	for _, x := range revs {
		l = append(l, api.Message{Kind: api.MsgNext, Branch: m.Branch, Client: m.Client, Rev: x.Rev, Who: x.Client, Seq: x.Seq, Delta: x.Delta})
	}
	return l, api.OK
}

// turn writes what changes from the state to another one, and has that one then.
func (r *Repo) turn(to api.State) api.Errno {
	sets, dels, e := record.Changes(r.state, to)
	if e != api.OK {
		// No pair can tell of it: branches have had more numbers than there are keys.
		return api.ErrNoSpace
	}
	if len(sets)+len(dels) > 0 {
		if e := r.store.Write(sets, dels); e != api.OK {
			return e
		}
	}
	r.state = to
	return api.OK
}
