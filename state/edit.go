package state

import (
	"cmp"
	"slices"

	"oxbow/api"
	"oxbow/copies"
	"oxbow/delta"
	"oxbow/ot"
)

// take takes a client's edit in. With an error the machine is of no use any more.
func (m *machine) take(msg api.Message) api.Errno {
	if msg.Kind != api.MsgEdit || msg.Client < 1 || msg.Client > api.MaxClients {
		return api.ErrArg
	}
	b := m.numbered(msg.Branch)
	if b == nil {
		return api.ErrStateNone
	}
	if e := m.isNext(msg); e != api.OK {
		return e
	}
	d, e := m.led(b, msg)
	if e != api.OK {
		return e
	}
	if _, e := m.grow(b, api.Commit{Delta: d, Client: msg.Client, Seq: msg.Seq}); e != api.OK {
		return e
	}
	m.know(api.Client{Client: msg.Client, Branch: msg.Branch, Seq: msg.Seq})
	return api.OK
}

// isNext answers OK, if an edit is the one that comes behind the client's last one.
func (m *machine) isNext(msg api.Message) api.Errno {
	last := 0
	if at, known := m.client(msg.Client); known {
		if m.Clients[at].Branch != msg.Branch {
			return api.ErrStateClient
		}
		last = m.Clients[at].Seq
	}
	if msg.Seq < 1 || msg.Seq <= last {
		return api.ErrStateOld
	}
	if msg.Seq != last+1 {
		return api.ErrStateGap
	}
	return api.OK
}

// led is an edit's Delta, led from the revision that it was made on to the tip.
func (m *machine) led(b *api.Branch, msg api.Message) ([]api.Op, api.Errno) {
	if !isRev(b, msg.Rev) {
		return nil, api.ErrStateRange
	}
	base, e := delta.Base(msg.Delta)
	if e != api.OK {
		return nil, e
	}
	if base != m.length(b.Log[msg.Rev]) {
		return nil, api.ErrDeltaLength
	}
	d := copies.Delta(msg.Delta)
	for _, num := range b.Log[msg.Rev+1:] {
		c, _ := m.commit(num)
		if d, e = ot.Transform(d, c.Delta, false); e != api.OK {
			return nil, api.ErrStateTooLong
		}
	}
	return d, api.OK
}

// client is the place among Clients that is a client's, and whether it stands there.
func (m *machine) client(num int) (int, bool) {
	return slices.BinarySearchFunc(m.Clients, num, func(c api.Client, num int) int { return cmp.Compare(c.Client, num) })
}

// know has a client among Clients, as it is now.
func (m *machine) know(c api.Client) {
	at, known := m.client(c.Client)
	if known {
		m.Clients[at] = c
		return
	}
	m.Clients = slices.Insert(m.Clients, at, c)
}
