package client_test

import (
	"encoding/binary"
	"fmt"
	"reflect"
	"slices"
	"strings"
	"testing"
	"unicode/utf8"
	"unsafe"

	"oxbow/api"
	"oxbow/client"
	"oxbow/delta"
	"oxbow/ot"
)

func keep(n int) api.Op        { return api.Op{Kind: api.OpKeep, N: n} }
func gone(n int) api.Op        { return api.Op{Kind: api.OpDelete, N: n} }
func ins(s string) api.Op      { return api.Op{Kind: api.OpInsert, Text: s} }
func ops(l ...api.Op) []api.Op { return l }

func waits(seq int, l ...api.Op) api.Edit { return api.Edit{Seq: seq, Delta: l} }

// next is a revision for the client 1 on the branch 1.
func next(rev int, who int, seq int, l ...api.Op) api.Message {
	return api.Message{Kind: api.MsgNext, Branch: 1, Client: 1, Rev: rev, Who: who, Seq: seq, Delta: l}
}

// show tells what there is in a line, however long it is.
func show(x any) string {
	const most = 400
	s := fmt.Sprintf("%+q", fmt.Sprintf("%v", x))
	if len(s) > most {
		return fmt.Sprintf("%s.. (%d bytes)", s[:most], len(s))
	}
	return s
}

func sameEdit(a api.Edit, b api.Edit) bool { return a.Seq == b.Seq && slices.Equal(a.Delta, b.Delta) }

func same(a api.Editor, b api.Editor) bool {
	return a.Client == b.Client && a.Branch == b.Branch && a.Rev == b.Rev && a.Text == b.Text && a.Seq == b.Seq && slices.EqualFunc(a.Pending, b.Pending, sameEdit)
}

func sameMessages(a []api.Message, b []api.Message) bool {
	return slices.EqualFunc(a, b, func(x api.Message, y api.Message) bool {
		d, f := x.Delta, y.Delta
		x.Delta, y.Delta = nil, nil
		return reflect.DeepEqual(x, y) && slices.Equal(d, f)
	})
}

// normal is chapter 9's word: of a delta that may be.
func normal(d []api.Op) bool {
	rank := map[int]int{api.OpInsert: 1, api.OpDelete: 2, api.OpKeep: 3}
	for i, o := range d[min(1, len(d)):] {
		ahead := d[i]
		if ahead.Kind == api.OpKeep && o.Kind == api.OpKeep || ahead.Kind != api.OpKeep && rank[ahead.Kind] >= rank[o.Kind] {
			return false
		}
	}
	return true
}

// ends are the base and the target of a delta that may be.
func ends(d []api.Op) (from int, to int) {
	for _, o := range d {
		switch o.Kind {
		case api.OpKeep:
			from, to = from+o.N, to+o.N
		case api.OpDelete:
			from += o.N
		case api.OpInsert:
			to += utf8.RuneCountInString(o.Text)
		}
	}
	return from, to
}

// applied is a text behind a delta that fits it.
func applied(s string, d []api.Op) string {
	l := []rune(s)
	var became []rune
	for _, o := range d {
		switch o.Kind {
		case api.OpKeep:
			became, l = append(became, l[:o.N]...), l[o.N:]
		case api.OpDelete:
			l = l[o.N:]
		case api.OpInsert:
			became = append(became, []rune(o.Text)...)
		}
	}
	return string(became)
}

// mayBe is the chapter's word.
func mayBe(e api.Editor) bool {
	n := utf8.RuneCountInString(e.Text)
	ok := 1 <= e.Client && e.Client <= 8 && 1 <= e.Branch && e.Branch <= 1000000 && 0 <= e.Rev && e.Rev <= 1000000
	ok = ok && utf8.ValidString(e.Text) && n <= 1000 && 0 <= e.Seq && e.Seq <= 100000 && len(e.Pending) <= 8
	for i, p := range e.Pending {
		ok = ok && delta.Check(p.Delta) == api.OK && normal(p.Delta)
		_, to := ends(p.Delta)
		if i+1 < len(e.Pending) {
			from, _ := ends(e.Pending[i+1].Delta)
			ok = ok && p.Seq < 100000 && e.Pending[i+1].Seq == p.Seq+1 && from == to
		} else {
			ok = ok && p.Seq == e.Seq && to == n
		}
	}
	return ok && (len(e.Pending) == 0 || e.Pending[0].Seq >= 1)
}

// baseOf is the chapter's word.
func baseOf(e api.Editor) int {
	if len(e.Pending) == 0 {
		return utf8.RuneCountInString(e.Text)
	}
	n, _ := ends(e.Pending[0].Delta)
	return n
}

// A pen writes forms by the chapter's words, whether what it writes may be or not. It can write one of its numbers with a group too much.
type pen struct {
	form   []byte
	nums   int // how many numbers it has written
	longer int // which of them (from 1 on) has a group too much; 0: none
}

func (p *pen) num(l ...int) {
	for _, n := range l {
		p.form = binary.AppendUvarint(p.form, uint64(n))
		p.nums++
		if p.nums == p.longer {
			p.form[len(p.form)-1] |= 128
			p.form = append(p.form, 0)
		}
	}
}

func (p *pen) text(s string) {
	p.num(len(s))
	p.form = append(p.form, s...)
}

// delta writes a delta as a text of its own, whether it may be or not.
func (p *pen) delta(d []api.Op) {
	var in pen
	in.num(len(d))
	for _, o := range d {
		in.num(o.Kind)
		if o.Kind == api.OpInsert {
			in.text(o.Text)
		} else {
			in.num(o.N)
		}
	}
	p.text(string(in.form))
}

func (p *pen) editor(e api.Editor) string {
	p.num(e.Client, e.Branch, e.Rev)
	p.text(e.Text)
	p.num(e.Seq, len(e.Pending))
	for _, w := range e.Pending {
		p.delta(w.Delta)
	}
	return string(p.form)
}

func formOf(e api.Editor) string { return new(pen).editor(e) }

// read is the editor of which a text is the form, read by the chapter's words; false: there is none.
func read(s string) (api.Editor, bool) {
	whole, shut := s, false
	num := func(most int) int {
		n, size := binary.Uvarint([]byte(s))
		shut = shut || size <= 0 || size != len(binary.AppendUvarint(nil, n)) || n > uint64(most)
		if shut {
			return 0
		}
		s = s[size:]
		return int(n)
	}
	text := func() string {
		n := num(20000)
		shut = shut || n > len(s)
		if shut {
			return ""
		}
		t := s[:n]
		s = s[n:]
		return t
	}
	e := api.Editor{Client: num(8), Branch: num(1000000), Rev: num(1000000), Text: text(), Seq: num(100000)}
	n := num(8)
	for i := range n {
		d, f := delta.Decode(text())
		shut = shut || f != api.OK
		e.Pending = append(e.Pending, api.Edit{Seq: e.Seq - n + i + 1, Delta: d})
	}
	if shut || s != "" || !mayBe(e) || len(whole) > 40000 {
		return api.Editor{}, false
	}
	return e, true
}

// edited is P20.2 by its words.
func edited(e api.Editor, d []api.Op) (api.Editor, api.Errno) {
	if !mayBe(e) {
		return api.Editor{}, api.ErrClientForm
	}
	if f := delta.Check(d); f != api.OK {
		return api.Editor{}, f
	}
	if from, _ := ends(d); from != utf8.RuneCountInString(e.Text) {
		return api.Editor{}, api.ErrDeltaLength
	}
	if len(e.Pending) == 8 || e.Seq == 100000 {
		return api.Editor{}, api.ErrClientFull
	}
	short, _ := delta.Normal(d)
	e.Text, e.Seq = applied(e.Text, d), e.Seq+1
	e.Pending = append(slices.Clone(e.Pending), api.Edit{Seq: e.Seq, Delta: short})
	if len(formOf(e)) > 40000 {
		return api.Editor{}, api.ErrClientFull
	}
	return e, api.OK
}

// taken is P20.3 by its words.
func taken(e api.Editor, m api.Message) (api.Editor, api.Errno) {
	if !mayBe(e) {
		return api.Editor{}, api.ErrClientForm
	}
	if m.Kind != 3 || m.Client != e.Client || m.Branch != e.Branch {
		return api.Editor{}, api.ErrArg
	}
	if m.Rev <= e.Rev {
		return api.Editor{}, api.ErrStateOld
	}
	if m.Rev > e.Rev+1 {
		return api.Editor{}, api.ErrStateGap
	}
	if f := delta.Check(m.Delta); f != api.OK {
		return api.Editor{}, f
	}
	if from, _ := ends(m.Delta); from != baseOf(e) {
		return api.Editor{}, api.ErrDeltaLength
	}
	e.Rev = m.Rev
	if m.Who == e.Client && len(e.Pending) > 0 && m.Seq == e.Pending[0].Seq {
		if d, _ := delta.Normal(m.Delta); !slices.Equal(d, e.Pending[0].Delta) {
			return api.Editor{}, api.ErrClientForm
		}
		e.Pending = e.Pending[1:]
		return e, api.OK
	}
	d := m.Delta
	var pending []api.Edit
	for _, p := range e.Pending {
		mine, f := ot.Transform(p.Delta, d, false)
		theirs, g := ot.Transform(d, p.Delta, true)
		if f != api.OK || g != api.OK {
			return api.Editor{}, api.ErrDeltaLength
		}
		d, pending = theirs, append(pending, api.Edit{Seq: p.Seq, Delta: mine})
	}
	if _, to := ends(d); to > 1000 {
		return api.Editor{}, api.ErrDeltaLength
	}
	e.Text, e.Pending = applied(e.Text, d), pending
	return e, api.OK
}

// plain is a copy of an editor, down to its last list.
func plain(e api.Editor) api.Editor {
	e.Pending = slices.Clone(e.Pending)
	for i := range e.Pending {
		e.Pending[i].Delta = slices.Clone(e.Pending[i].Delta)
	}
	return e
}

// holdEdit holds Edit against the chapter's words, and is the editor behind it, or the same one, if it was refused.
func holdEdit(t *testing.T, e api.Editor, d []api.Op) (api.Editor, api.Errno) {
	t.Helper()
	was, list := plain(e), slices.Clone(d)
	behind, f := client.Edit(e, d)
	want, wantF := edited(e, d)
	if f != wantF || !same(behind, want) {
		t.Errorf("P20.2: Edit(%s, %s): %s, %d, want %s, %d", show(e), show(d), show(behind), f, show(want), wantF)
	}
	if !same(e, was) || !slices.Equal(d, list) {
		t.Errorf("R5: Edit has changed what it was given")
	}
	if f != api.OK {
		return e, f
	}
	return behind, f
}

// holdNext does so with Next.
func holdNext(t *testing.T, e api.Editor, m api.Message) (api.Editor, api.Errno) {
	t.Helper()
	was, list := plain(e), slices.Clone(m.Delta)
	behind, f := client.Next(e, m)
	want, wantF := taken(e, m)
	if f != wantF || !same(behind, want) {
		t.Errorf("P20.3: Next(%s, %s): %s, %d, want %s, %d", show(e), show(m), show(behind), f, show(want), wantF)
	}
	if !same(e, was) || !slices.Equal(m.Delta, list) {
		t.Errorf("R5: Next has changed what it was given")
	}
	if f != api.OK {
		return e, f
	}
	return behind, f
}

func holdSays(t *testing.T, e api.Editor) {
	t.Helper()
	var want []api.Message
	if mayBe(e) {
		if len(e.Pending) > 0 {
			want = append(want, api.Message{Kind: 1, Branch: e.Branch, Client: e.Client, Rev: e.Rev, Seq: e.Pending[0].Seq, Delta: e.Pending[0].Delta})
		}
		want = append(want, api.Message{Kind: 2, Branch: e.Branch, Client: e.Client, Rev: e.Rev})
	}
	if l := client.Says(e); !sameMessages(l, want) {
		t.Errorf("P20.4: Says(%s): %s, want %s", show(e), show(l), show(want))
	}
}

// holdForm holds Encode of an editor, and Decode of what it answers, against the chapter's words.
func holdForm(t *testing.T, e api.Editor) {
	t.Helper()
	form, f := client.Encode(e)
	switch want := formOf(e); {
	case !mayBe(e):
		if form != "" || f != api.ErrClientForm {
			t.Errorf("P20.5: Encode(%s): %s, %d, want ErrClientForm", show(e), show(form), f)
		}
		return
	case len(want) > 40000:
		if form != "" || f != api.ErrClientFull {
			t.Errorf("P20.5: Encode(%s): %d bytes, %d, want ErrClientFull", show(e), len(form), f)
		}
		holdDecode(t, want)
	default:
		if form != want || f != api.OK {
			t.Errorf("P20.5: Encode(%s): %s, %d, want %s", show(e), show(form), f, show(want))
		}
		if again, f := client.Decode(form); !same(again, e) || f != api.OK {
			t.Errorf("P20.6: Decode of Encode: %s, %d, want %s", show(again), f, show(e))
		}
	}
}

// holdDecode holds Decode of a text against the chapter's words, and tells whether it is a form.
func holdDecode(t *testing.T, s string) bool {
	t.Helper()
	want, is := read(s)
	wantF := api.OK
	if !is {
		wantF = api.ErrClientForm
	}
	e, f := client.Decode(s)
	if f != wantF || !same(e, want) {
		t.Errorf("P20.5: Decode(%s): %s, %d, want %s, %d", show(s), show(e), f, show(want), wantF)
	}
	return is
}

// refused holds that nothing is done with an editor that may not be.
func refused(t *testing.T, e api.Editor) {
	t.Helper()
	if mayBe(e) {
		t.Fatalf("the tests are wrong: %s may be", show(e))
	}
	n := utf8.RuneCountInString(e.Text)
	for _, d := range [][]api.Op{nil, ops(keep(max(1, n))), ops(keep(0)), ops(keep(1000), keep(1))} {
		if behind, f := client.Edit(e, d); !same(behind, api.Editor{}) || f != api.ErrClientForm {
			t.Errorf("P20.2: Edit(%s, %s): %s, %d", show(e), show(d), show(behind), f)
		}
		for _, m := range []api.Message{{}, {Kind: 3, Branch: e.Branch, Client: e.Client, Rev: e.Rev, Delta: d}, {Kind: 3, Branch: e.Branch, Client: e.Client, Rev: e.Rev + 1, Delta: d}} {
			if behind, f := client.Next(e, m); !same(behind, api.Editor{}) || f != api.ErrClientForm {
				t.Errorf("P20.3: Next(%s, %s): %s, %d", show(e), show(m), show(behind), f)
			}
		}
	}
	if l := client.Says(e); len(l) != 0 {
		t.Errorf("P20.4: Says(%s): %s", show(e), show(l))
	}
	holdForm(t, e)
}

// accepted holds that everything is done with one that may be.
func accepted(t *testing.T, e api.Editor) {
	t.Helper()
	if !mayBe(e) {
		t.Fatalf("the tests are wrong: %s may not be", show(e))
	}
	n := utf8.RuneCountInString(e.Text)
	d := ops(keep(n))
	if n == 0 {
		d = nil
	}
	holdEdit(t, e, d)
	var over []api.Op
	if base := baseOf(e); base > 0 {
		over = ops(keep(base))
	}
	holdNext(t, e, api.Message{Kind: 3, Branch: e.Branch, Client: e.Client, Rev: e.Rev + 1, Delta: over})
	if l := client.Says(e); len(l) != min(2, 1+len(e.Pending)) {
		t.Errorf("P20.4: Says(%s): %s", show(e), show(l))
	}
	holdSays(t, e)
	holdForm(t, e)
}

// A span is the memory that a list, with its spare room, or a text takes.
type span struct{ from, to uintptr }

func overlap(a span, b span) bool { return a.from < b.to && b.from < a.to }

// spans are those of all lists and all texts of a value. Texts of one byte may be the runtime's own.
func spans(v reflect.Value) (lists []span, texts []span) {
	add := func(v reflect.Value) {
		l, s := spans(v)
		lists, texts = append(lists, l...), append(texts, s...)
	}
	switch v.Kind() {
	case reflect.Slice:
		if v.Cap() > 0 {
			lists = append(lists, span{v.Pointer(), v.Pointer() + uintptr(v.Cap())*v.Type().Elem().Size()})
		}
		for i := range v.Len() {
			add(v.Index(i))
		}
	case reflect.Struct:
		for i := range v.NumField() {
			add(v.Field(i))
		}
	case reflect.String:
		if s := v.String(); len(s) > 1 {
			from := uintptr(unsafe.Pointer(unsafe.StringData(s)))
			texts = append(texts, span{from, from + uintptr(len(s))})
		}
	}
	return lists, texts
}

// apart holds that an answer is new memory, and that no two lists of it share any.
func apart(t *testing.T, what string, answer any, arguments ...any) {
	t.Helper()
	lists, texts := spans(reflect.ValueOf(answer))
	for i, a := range lists {
		if slices.ContainsFunc(lists[:i], func(b span) bool { return overlap(a, b) }) {
			t.Errorf("R5: %s: two lists of the answer share memory", what)
		}
	}
	for _, x := range arguments {
		given, words := spans(reflect.ValueOf(x))
		for _, a := range lists {
			if slices.ContainsFunc(given, func(b span) bool { return overlap(a, b) }) {
				t.Errorf("R5: %s: a list of the answer is one that was handed in", what)
			}
		}
		for _, a := range texts {
			if slices.ContainsFunc(words, func(b span) bool { return overlap(a, b) }) {
				t.Errorf("R5: %s: a text of the answer is a piece of one that was handed in", what)
			}
		}
	}
}

func repeat(s string, n int) string { return strings.Repeat(s, n) }
