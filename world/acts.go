package world

import (
	"oxbow/api"
	"oxbow/client"
	"oxbow/wire"
)

// toServer is to whom letters of clients go.
const toServer = 0

// mayDo tells whether an act is one, and names a party, if it has one.
func (w *World) mayDo(a api.Act) bool {
	switch a.Kind {
	case api.DoJoin, api.DoEdit, api.DoTick:
		return w.isClient(a.Party)
	case api.DoFuse, api.DoCrash, api.DoRecover:
		return w.isParty(a.Party)
	}
	return a.Kind >= api.DoRequest && a.Kind <= api.DoRound
}

// act does an act that may be done.
func (w *World) act(a api.Act) (api.Reply, api.Errno) {
	switch a.Kind {
	case api.DoRequest:
		return w.request(a.Req)
	case api.DoJoin:
		return w.join(w.seats[a.Party-1], a.Req.Name)
	}
	return api.Reply{}, w.quietly(a)
}

// quietly does an act that has no reply.
func (w *World) quietly(a api.Act) api.Errno {
	switch a.Kind {
	case api.DoEdit:
		return w.seats[a.Party-1].edit(a.Req.Delta)
	case api.DoTick:
		return w.tick(w.seats[a.Party-1])
	case api.DoDeliver:
		return w.deliver(a.N)
	case api.DoDrop:
		_, e := w.net.Take(a.N)
		return e
	case api.DoDouble:
		return w.net.Double(a.N)
	case api.DoFuse:
		return w.party(a.Party).d.Fuse(a.N)
	case api.DoCrash:
		w.party(a.Party).d.Crash(a.Req.Text)
		w.fall(a.Party)
	case api.DoRecover:
		return w.bringUp(a.Party)
	case api.DoRound:
		w.round()
	}
	return api.OK
}

func (w *World) request(q api.Request) (api.Reply, api.Errno) {
	if !w.server.up {
		return api.Reply{}, api.ErrDown
	}
	return w.server.repo.Do(q)
}

// join has a client begin on a branch's last revision.
func (w *World) join(s *seat, name string) (api.Reply, api.Errno) {
	if !s.up || !w.server.up {
		return api.Reply{}, api.ErrDown
	}
	if s.joined {
		return api.Reply{}, api.ErrWorldOp
	}
	b, text, e := w.server.branch(name)
	if e != api.OK {
		return api.Reply{}, e
	}
	rev := len(b.Log) - 1
	editor, e := client.Begin(s.num, b.Id, rev, text)
	if e != api.OK {
		return api.Reply{}, e
	}
	if e := s.become(editor); e != api.OK {
		return api.Reply{}, e
	}
	return api.Reply{Num: rev}, api.OK
}

// tick sends what a client has to say.
func (w *World) tick(s *seat) api.Errno {
	if e := s.mayWork(); e != api.OK {
		return e
	}
	for _, m := range client.Says(s.editor) {
		w.send(toServer, m)
	}
	return api.OK
}

// send sends a message. It is lost, if there is no room.
func (w *World) send(to int, m api.Message) {
	if form, e := wire.Encode(m); e == api.OK {
		w.net.Send(api.Letter{To: to, Text: form})
	}
}

// deliver takes a letter to the one for whom it is. Whatever becomes of it there, it is under way no more.
func (w *World) deliver(n int) api.Errno {
	l, e := w.net.Take(n)
	if e != api.OK {
		return e
	}
	if l.To != toServer {
		return w.seats[l.To-1].hear(l.Text)
	}
	answers, e := w.server.hear(l.Text)
	if e != api.OK {
		return e
	}
	for _, m := range answers {
		w.send(m.Client, m)
	}
	return api.OK
}

// bringUp recovers a party that is not up.
func (w *World) bringUp(num int) api.Errno {
	if w.party(num).up {
		return api.ErrArg
	}
	if num == 0 {
		return w.server.open()
	}
	return w.seats[num-1].open()
}

// round has all clients say what they have to say, and all be delivered. It ends, as clients answer no letters.
func (w *World) round() {
	for i := range w.seats {
		w.Do(api.Act{Kind: api.DoTick, Party: i + 1})
	}
	for w.net.Len() > 0 {
		w.Do(api.Act{Kind: api.DoDeliver})
	}
}
