package client

import (
	"strings"

	"oxbow/api"
	"oxbow/delta"
	"oxbow/pack"
)

// Encode writes a client as a text, Decode reads one.
func Encode(e api.Editor) (string, api.Errno) {
	if !mayBe(e) {
		return "", api.ErrClientForm
	}
	form := nums(e.Client, e.Branch, e.Rev) + texts(e.Text) + nums(e.Seq, len(e.Pending)) + texts(deltas(e.Pending)...)
	if len(form) > api.MaxShelf {
		return "", api.ErrClientFull
	}
	return form, api.OK
}

func Decode(s string) (api.Editor, api.Errno) {
	r := reader{form: s}
	e := api.Editor{Client: r.num(), Branch: r.num(), Rev: r.num(), Text: r.text(), Seq: r.num()}
	n := r.num()
	if n > api.MaxPending {
		return api.Editor{}, api.ErrClientForm
	}
	for i := range n {
		e.Pending = append(e.Pending, api.Edit{Seq: e.Seq - n + 1 + i, Delta: r.delta()})
	}
	if r.failed {
		return api.Editor{}, api.ErrClientForm
	}
	// Bytes behind, an editor that may not be and one that is too long all show when it is written again.
	if form, f := Encode(e); f != api.OK || form != s {
		return api.Editor{}, api.ErrClientForm
	}
	return e, api.OK
}

// nums are the forms of numbers of an editor that may be, texts those of its texts, one behind the other. None of them is too great for pack.
func nums(l ...int) string {
	var forms strings.Builder
	for _, n := range l {
		form, _ := pack.Num(n)
		forms.WriteString(form)
	}
	return forms.String()
}

func texts(l ...string) string {
	var forms strings.Builder
	for _, s := range l {
		form, _ := pack.Text(s)
		forms.WriteString(form)
	}
	return forms.String()
}

// deltas are the Deltas of edits as texts.
func deltas(l []api.Edit) []string {
	var forms []string
	for _, p := range l {
		form, _ := delta.Encode(p.Delta)
		forms = append(forms, form)
	}
	return forms
}

// A reader goes along a form. Behind the first piece that is not there it answers zero values alone.
type reader struct {
	form   string
	at     int
	failed bool
}

func (r *reader) num() int {
	if r.failed {
		return 0
	}
	n, at, f := pack.TakeNum(r.form, r.at)
	r.at, r.failed = at, f != api.OK
	return n
}

func (r *reader) text() string {
	if r.failed {
		return ""
	}
	s, at, f := pack.TakeText(r.form, r.at)
	r.at, r.failed = at, f != api.OK
	return s
}

func (r *reader) delta() []api.Op {
	form := r.text()
	if r.failed {
		return nil
	}
	d, f := delta.Decode(form)
	r.failed = f != api.OK
	return d
}
