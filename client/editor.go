package client

import (
	"slices"
	"strings"
	"unicode/utf8"

	"oxbow/api"
	"oxbow/delta"
	"oxbow/ot"
)

const (
	maxNum = 1000000 // the greatest number of a branch or of a revision
	maxSeq = 100000  // the greatest number of an edit
)

// mayBe tells whether an editor may be.
func mayBe(e api.Editor) bool {
	return within(1, api.MaxClients, e.Client) && within(1, maxNum, e.Branch) && within(0, maxNum, e.Rev) &&
		within(0, api.MaxText, length(e.Text)) && within(0, maxSeq, e.Seq) && mayWait(e)
}

// mayWait tells whether what is Pending may be, one edit behind the other, up to Seq and to Text.
func mayWait(e api.Editor) bool {
	n := len(e.Pending)
	if n > min(api.MaxPending, e.Seq) {
		return false
	}
	at := base(e)
	for i, p := range e.Pending {
		from, to, ok := ends(p.Delta)
		if !ok || from != at || p.Seq != e.Seq-n+1+i {
			return false
		}
		at = to
	}
	return at == length(e.Text)
}

// ends are the base and the target of a delta that is normal and may be.
func ends(d []api.Op) (from int, to int, ok bool) {
	normal, f := delta.Normal(d)
	if f != api.OK || !slices.Equal(normal, d) {
		return 0, 0, false
	}
	from, _ = delta.Base(d)
	to, _ = delta.Target(d)
	return from, to, true
}

func within(low int, high int, n int) bool { return low <= n && n <= high }

// length is how many code points a text has; -1: it is not valid.
func length(s string) int {
	if !utf8.ValidString(s) {
		return -1
	}
	return utf8.RuneCountInString(s)
}

// base is how long the text is that an editor's edits were made on.
func base(e api.Editor) int {
	if len(e.Pending) == 0 {
		return length(e.Text)
	}
	n, _ := delta.Base(e.Pending[0].Delta)
	return n
}

// copied is an edit that waits, in new memory: what is normal, Normal copies.
func copied(p api.Edit) api.Edit {
	p.Delta, _ = delta.Normal(p.Delta)
	return p
}

// waiting are copies of edits that wait.
func waiting(l []api.Edit) []api.Edit {
	var all []api.Edit
	for _, p := range l {
		all = append(all, copied(p))
	}
	return all
}

// edited is an editor behind a delta that fits its Text.
func edited(e api.Editor, d []api.Op) api.Editor {
	e.Text, _ = delta.Apply(e.Text, d)
	e.Seq++
	e.Pending = append(waiting(e.Pending), copied(api.Edit{Seq: e.Seq, Delta: d}))
	return e
}

// fits answers OK, if a message is an editor's next revision.
func fits(e api.Editor, m api.Message) api.Errno {
	if m.Kind != api.MsgNext || m.Client != e.Client || m.Branch != e.Branch {
		return api.ErrArg
	}
	if m.Rev <= e.Rev {
		return api.ErrStateOld
	}
	if m.Rev != e.Rev+1 {
		return api.ErrStateGap
	}
	n, f := delta.Base(m.Delta)
	if f != api.OK {
		return f
	}
	if n != base(e) {
		return api.ErrDeltaLength
	}
	return api.OK
}

// isOwn tells whether a revision is the first edit that waits, come into the branch.
func isOwn(e api.Editor, m api.Message) bool {
	return m.Who == e.Client && len(e.Pending) > 0 && m.Seq == e.Pending[0].Seq
}

// confirmed is an editor whose first edit is the next revision: what it shows is as it was.
func confirmed(e api.Editor, m api.Message) (api.Editor, api.Errno) {
	d, _ := delta.Normal(m.Delta)
	if !slices.Equal(d, e.Pending[0].Delta) {
		return api.Editor{}, api.ErrClientForm
	}
	e.Text, e.Rev, e.Pending = strings.Clone(e.Text), m.Rev, waiting(e.Pending[1:])
	return e, api.OK
}

// led is an editor with a revision of somebody else's led through all that is Pending.
func led(e api.Editor, m api.Message) (api.Editor, api.Errno) {
	var pending []api.Edit
	d := m.Delta
	for _, p := range e.Pending {
		mine, f := ot.Transform(p.Delta, d, false)
		theirs, g := ot.Transform(d, p.Delta, true)
		if f != api.OK || g != api.OK {
			return api.Editor{}, api.ErrDeltaLength
		}
		pending = append(pending, api.Edit{Seq: p.Seq, Delta: mine})
		d = theirs
	}
	text, f := delta.Apply(e.Text, d)
	if f != api.OK {
		return api.Editor{}, api.ErrDeltaLength
	}
	e.Text, e.Rev, e.Pending = text, m.Rev, pending
	return e, api.OK
}
