package world

import (
	"testing"

	"oxbow/api"
	"oxbow/wire"
)

// TestLettersThatNobodySends: no act brings these under way, but what the chapter says of letters holds of them, too.
func TestLettersThatNobodySends(t *testing.T) {
	form := func(m api.Message) string {
		s, e := wire.Encode(m)
		if e != api.OK {
			t.Fatalf("E1: %d", e)
		}
		return s
	}
	put := form(api.Message{Kind: api.MsgEdit, Branch: 1, Client: 1, Seq: 1, Rev: 0, Delta: []api.Op{{Kind: api.OpInsert, Text: "x"}}})
	pull := form(api.Message{Kind: api.MsgPull, Branch: 1, Client: 1})
	next := form(api.Message{Kind: api.MsgNext, Branch: 1, Client: 1, Rev: 1})
	for what, c := range map[string]struct {
		to     int
		text   string
		down   int // who is down
		joined bool
		e      api.Errno
	}{
		"no form, to the server":                          {0, "\xff", 9, true, api.ErrWireForm},
		"no form, to the server, which is down":           {0, "\xff", 0, true, api.ErrDown},
		"no text, to the server":                          {0, "", 9, true, api.ErrWireForm},
		"a revision, to the server":                       {0, next, 9, true, api.ErrArg},
		"an edit with a gap, to the server":               {0, form(api.Message{Kind: api.MsgEdit, Branch: 1, Client: 1, Seq: 2}), 9, true, api.ErrStateGap},
		"an edit of no revision, to the server":           {0, form(api.Message{Kind: api.MsgEdit, Branch: 1, Client: 1, Seq: 1, Rev: 1}), 9, true, api.ErrStateRange},
		"an edit of another length, to the server":        {0, form(api.Message{Kind: api.MsgEdit, Branch: 1, Client: 1, Seq: 1, Delta: []api.Op{{Kind: api.OpKeep, N: 1}}}), 9, true, api.ErrDeltaLength},
		"a pull of no revision, to the server":            {0, form(api.Message{Kind: api.MsgPull, Branch: 1, Client: 1, Rev: 9}), 9, true, api.ErrStateRange},
		"an edit, to the server":                          {0, put, 9, true, api.OK},
		"no form, to a client":                            {1, "\xff", 9, true, api.ErrWireForm},
		"no form, to a client that is down":               {1, "\xff", 1, true, api.ErrDown},
		"no form, to a client that has not joined":        {1, "\xff", 9, false, api.ErrWorldOp},
		"a revision, to a client that has not joined":     {1, next, 9, false, api.ErrWorldOp},
		"to one that has not joined, and is down":         {1, next, 1, false, api.ErrDown},
		"a pull, to a client":                             {1, pull, 9, true, api.ErrArg},
		"an edit, to a client":                            {1, put, 9, true, api.ErrArg},
		"another one's revision, to a client":             {1, form(api.Message{Kind: api.MsgNext, Branch: 1, Client: 2, Rev: 1}), 9, true, api.ErrArg},
		"a revision of another branch, to a client":       {1, form(api.Message{Kind: api.MsgNext, Branch: 2, Client: 1, Rev: 1}), 9, true, api.ErrArg},
		"a revision of another length, to a client":       {1, form(api.Message{Kind: api.MsgNext, Branch: 1, Client: 1, Rev: 1, Delta: []api.Op{{Kind: api.OpKeep, N: 1}}}), 9, true, api.ErrDeltaLength},
		"a revision too far ahead, to a client":           {1, form(api.Message{Kind: api.MsgNext, Branch: 1, Client: 1, Rev: 2}), 9, true, api.ErrStateGap},
		"a revision, to a client":                         {1, next, 9, true, api.OK},
		"a revision, to a client, while the server is so": {1, next, 0, true, api.OK},
	} {
		w, e := New(api.Config{Sectors: 600, Shelf: 64, Clients: 2})
		if e != api.OK {
			t.Fatalf("P23.1: %d", e)
		}
		do := func(a api.Act, want api.Errno) {
			t.Helper()
			if reply, e := w.Do(a); e != want || reply.Num != 0 && e != api.OK {
				t.Errorf("P23.2: %s: %d, want %d", what, e, want)
			}
		}
		do(api.Act{Kind: api.DoRequest, Req: api.Request{Kind: api.ReqCreate, Name: "a"}}, api.OK)
		if c.joined {
			do(api.Act{Kind: api.DoJoin, Party: 1, Req: api.Request{Name: "a"}}, api.OK)
		}
		if w.isParty(c.down) {
			do(api.Act{Kind: api.DoCrash, Party: c.down}, api.OK)
		}
		w.net.Send(api.Letter{To: c.to, Text: c.text})
		do(api.Act{Kind: api.DoDeliver}, c.e)
		if len(w.Net()) != 0 {
			t.Errorf("P23.2: %s: the letter is still under way", what)
		}
	}
}
