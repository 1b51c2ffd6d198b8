package client_test

import (
	"math"
	"math/rand"
	"slices"
	"strings"
	"testing"
	"unicode/utf8"

	"oxbow/api"
	"oxbow/client"
)

// begun is the client 1 on the branch 1, at its beginning.
func begun(t *testing.T, s string) api.Editor {
	t.Helper()
	e, f := client.Begin(1, 1, 0, s)
	if f != api.OK || !same(e, api.Editor{Client: 1, Branch: 1, Text: s}) {
		t.Fatalf("P20.1: Begin(%s): %s, %d", show(s), show(e), f)
	}
	return e
}

// after does edits that must all end well.
func after(t *testing.T, e api.Editor, l ...[]api.Op) api.Editor {
	t.Helper()
	for _, d := range l {
		behind, f := holdEdit(t, e, d)
		if f != api.OK {
			t.Fatalf("P20.2: Edit(%s, %s): %d", show(e), show(d), f)
		}
		e = behind
	}
	return e
}

// edits holds that Edit answers this error, and nothing beside it.
func edits(t *testing.T, e api.Editor, d []api.Op, want api.Errno) {
	t.Helper()
	if behind, f := client.Edit(e, d); f != want || f != api.OK && !same(behind, api.Editor{}) {
		t.Errorf("P20.2: Edit(%s, %s): %s, %d, want %d", show(e), show(d), show(behind), f, want)
	}
	holdEdit(t, e, d)
}

// nexts holds so of Next.
func nexts(t *testing.T, e api.Editor, m api.Message, want api.Errno) api.Editor {
	t.Helper()
	behind, f := client.Next(e, m)
	if f != want || f != api.OK && !same(behind, api.Editor{}) {
		t.Errorf("P20.3: Next(%s, %s): %s, %d, want %d", show(e), show(m), show(behind), f, want)
	}
	holdNext(t, e, m)
	return behind
}

// two is an editor with two edits that wait, of a text of three code points: abc, a1bc, a1b.
func two() api.Editor {
	return api.Editor{Client: 1, Branch: 1, Rev: 4, Text: "a1b", Seq: 7, Pending: []api.Edit{waits(6, keep(1), ins("1"), keep(2)), waits(7, keep(3), gone(1))}}
}

func TestExample(t *testing.T) {
	e := after(t, begun(t, "abc"), ops(keep(1), ins("1"), keep(2)))
	if !same(e, api.Editor{Client: 1, Branch: 1, Text: "a1bc", Seq: 1, Pending: []api.Edit{waits(1, keep(1), ins("1"), keep(2))}}) {
		t.Errorf("example 1: %s", show(e))
	}
	e = nexts(t, e, next(1, 2, 1, keep(1), ins("2"), keep(2)), api.OK)
	if !same(e, api.Editor{Client: 1, Branch: 1, Rev: 1, Text: "a21bc", Seq: 1, Pending: []api.Edit{waits(1, keep(2), ins("1"), keep(2))}}) {
		t.Errorf("example 1: %s", show(e))
	}
	e = nexts(t, e, next(2, 1, 1, keep(2), ins("1"), keep(2)), api.OK)
	if !same(e, api.Editor{Client: 1, Branch: 1, Rev: 2, Text: "a21bc", Seq: 1}) {
		t.Errorf("example 1: %s", show(e))
	}
	if l := client.Says(e); !sameMessages(l, []api.Message{{Kind: api.MsgPull, Branch: 1, Client: 1, Rev: 2}}) {
		t.Errorf("example 1: %s", show(l))
	}
}

func TestBegin(t *testing.T) {
	for _, c := range []int{math.MinInt, -1, 0, 1, 2, 8, 9, math.MaxInt} {
		for _, branch := range []int{math.MinInt, -1, 0, 1, 2, 999999, 1000000, 1000001, math.MaxInt} {
			for _, rev := range []int{math.MinInt, -1, 0, 1, 1000000, 1000001, math.MaxInt} {
				for _, s := range []string{"", "a", "é€😀", repeat("a", 1000), repeat("😀", 1000), repeat("a", 1001), repeat("😀", 1001), "\xff", "a\xc3", repeat("a", 1001) + "\xff"} {
					want := api.Editor{Client: c, Branch: branch, Rev: rev, Text: s}
					wantF := api.OK
					if !mayBe(want) {
						want, wantF = api.Editor{}, api.ErrArg
					}
					if e, f := client.Begin(c, branch, rev, s); f != wantF || !same(e, want) {
						t.Fatalf("P20.1: Begin(%d, %d, %d, %s): %s, %d, want %d", c, branch, rev, show(s), show(e), f, wantF)
					}
				}
			}
		}
	}
	for _, bad := range []api.Editor{{Client: 0, Branch: 1}, {Client: 9, Branch: 1}, {Client: 1}, {Client: 1, Branch: 1000001}, {Client: 1, Branch: 1, Rev: -1}, {Client: 1, Branch: 1, Rev: 1000001}, {Client: 1, Branch: 1, Text: "\xff"}, {Client: 1, Branch: 1, Text: repeat("é", 1001)}} {
		if e, f := client.Begin(bad.Client, bad.Branch, bad.Rev, bad.Text); f != api.ErrArg || !same(e, api.Editor{}) {
			t.Errorf("P20.1: Begin of %s: %s, %d", show(bad), show(e), f)
		}
		refused(t, bad)
	}
}

// TestWhatMayBe: each bound of the word, just inside and just outside.
func TestWhatMayBe(t *testing.T) {
	accepted(t, two())
	refused(t, api.Editor{})
	turn := func(inside bool, how func(e *api.Editor)) {
		t.Helper()
		e := plain(two())
		how(&e)
		if inside {
			accepted(t, e)
		} else {
			refused(t, e)
		}
	}
	for n, inside := range map[int]bool{math.MinInt: false, -1: false, 0: false, 1: true, 8: true, 9: false, math.MaxInt: false} {
		turn(inside, func(e *api.Editor) { e.Client = n })
	}
	for n, inside := range map[int]bool{math.MinInt: false, -1: false, 0: false, 1: true, 1000000: true, 1000001: false, math.MaxInt: false} {
		turn(inside, func(e *api.Editor) { e.Branch = n })
	}
	for n, inside := range map[int]bool{math.MinInt: false, -1: false, 0: true, 1: true, 1000000: true, 1000001: false, math.MaxInt: false} {
		turn(inside, func(e *api.Editor) { e.Rev = n })
	}
	for n, inside := range map[int]bool{-1: false, 0: false, 1: false, 2: true, 3: true, 99999: true, 100000: true, 100001: false} {
		turn(inside, func(e *api.Editor) { e.Seq, e.Pending[0].Seq, e.Pending[1].Seq = n, n-1, n })
	}
	for n, inside := range map[int]bool{math.MinInt: false, -1: false, 0: true, 1: true, 100000: true, 100001: false, math.MaxInt: false} {
		turn(inside, func(e *api.Editor) { e.Seq, e.Pending = n, nil })
	}
	for _, seqs := range [][3]int{{5, 7, 7}, {7, 7, 7}, {6, 6, 7}, {7, 6, 7}, {6, 8, 7}, {6, 7, 8}, {6, 7, 6}, {7, 8, 7}, {5, 6, 7}, {0, 1, 2}, {math.MinInt, 7, 7}, {math.MaxInt, 7, 7}, {math.MaxInt, math.MinInt, math.MinInt}} {
		turn(false, func(e *api.Editor) { e.Pending[0].Seq, e.Pending[1].Seq, e.Seq = seqs[0], seqs[1], seqs[2] })
	}
	for s, inside := range map[string]bool{"": false, "a": false, "ab": false, "abc": true, "é€😀": true, "abcd": false, "ab\xff": false, "\xff": false} {
		turn(inside, func(e *api.Editor) { e.Text = s })
	}
	turn(true, func(e *api.Editor) { e.Pending = e.Pending[1:] })
	turn(false, func(e *api.Editor) { e.Pending = e.Pending[:1] })
	turn(false, func(e *api.Editor) { e.Pending[0], e.Pending[1] = e.Pending[1], e.Pending[0] })
}

// TestWhichDeltasMayWait: normal ones, each with the target of the one ahead as its base.
func TestWhichDeltasMayWait(t *testing.T) {
	for _, d := range [][]api.Op{ops(ins("1"), keep(3)), ops(ins("1"), gone(3), keep(1)), ops(keep(3)), ops(keep(1), gone(1), keep(1), ins("xy")), ops(gone(2000-1000), ins("x")), ops(ins("xyzw"), gone(3)), ops(keep(1), ins("x"), gone(1), keep(1), ins("y")), ops(gone(1), keep(2), ins("x")), nil} {
		from, to := ends(d)
		e := api.Editor{Client: 1, Branch: 1, Text: repeat("é", to), Seq: 2, Pending: []api.Edit{{Seq: 2, Delta: d}}}
		if normal(d) {
			accepted(t, e)
		} else {
			refused(t, e)
		}
		for _, n := range []int{to - 1, to + 1} {
			if e.Text = repeat("é", max(n, 0)); n >= 0 {
				refused(t, e)
			}
		}
		e.Text = repeat("é", to)
		for _, n := range []int{from - 1, from, from + 1} {
			if n < 1 || n > 1000 {
				continue
			}
			e.Pending = []api.Edit{waits(1, ins(repeat("a", n))), {Seq: 2, Delta: d}}
			if normal(d) && n == from {
				accepted(t, e)
			} else {
				refused(t, e)
			}
		}
	}
	for _, d := range [][]api.Op{ops(keep(1), keep(2)), ops(ins("x"), ins("y"), gone(1)), ops(gone(1), ins("x")), ops(gone(1), gone(1)), ops(keep(1), gone(1), ins("x")), ops(keep(0)), ops(keep(3), ins("")), ops(ins("\xff")), ops(api.Op{Kind: 0}), ops(api.Op{Kind: 4, N: 1}), ops(api.Op{Kind: api.OpKeep, N: 1, Text: "x"}), ops(api.Op{Kind: api.OpInsert, N: 1, Text: "x"}), ops(keep(1001)), ops(keep(1000), ins("x")), ops(keep(-1)), slices.Repeat(ops(keep(1), gone(1)), 501), slices.Repeat(ops(keep(1), gone(1)), 2000)} {
		_, to := ends(d)
		if to < 0 || to > 1000 {
			to = 1000
		}
		for _, n := range []int{0, 1, 3, to} {
			refused(t, api.Editor{Client: 1, Branch: 1, Text: repeat("a", n), Seq: 2, Pending: []api.Edit{{Seq: 2, Delta: d}}})
		}
	}
	for _, n := range []int{7, 8, 9, 10} {
		e := api.Editor{Client: 1, Branch: 1, Text: "a", Seq: n}
		for i := range n {
			e.Pending = append(e.Pending, waits(i+1, keep(1)))
		}
		if n <= 8 {
			accepted(t, e)
		} else {
			refused(t, e)
		}
	}
	accepted(t, api.Editor{Client: 8, Branch: 1000000, Rev: 1000000, Text: repeat("😀", 1000), Seq: 100000})
}

func TestEdit(t *testing.T) {
	e := begun(t, "abc")
	for _, d := range [][]api.Op{ops(keep(0)), ops(ins("")), ops(ins("\xff")), ops(api.Op{Kind: 4, N: 3}), ops(keep(3), api.Op{Kind: 1, N: 1, Text: "x"}), slices.Repeat(ops(ins("a")), 3001)} {
		edits(t, e, d, api.ErrDeltaForm)
	}
	for _, d := range [][]api.Op{nil, ops(keep(2)), ops(keep(4)), ops(ins("abc")), ops(keep(1000), ins("x")), ops(keep(3), ins(repeat("x", 998)))} {
		edits(t, e, d, api.ErrDeltaLength)
	}
	edits(t, e, ops(keep(3), ins(repeat("x", 997))), api.OK)
	e = after(t, e, ops(gone(1), ins("é"), gone(1), ins("€"), keep(1)), ops(keep(1), keep(2)), ops(gone(3)), nil, ops(ins("q")))
	want := api.Editor{Client: 1, Branch: 1, Text: "q", Seq: 5, Pending: []api.Edit{waits(1, ins("é€"), gone(2), keep(1)), waits(2, keep(3)), waits(3, gone(3)), waits(4), waits(5, ins("q"))}}
	if !same(e, want) {
		t.Errorf("P20.2: %s, want %s", show(e), show(want))
	}
	holdSays(t, e)
	holdForm(t, e)
}

func TestEditThatIsFull(t *testing.T) {
	e := begun(t, "a")
	for i := range 8 {
		if len(e.Pending) != i {
			t.Errorf("P20.2: %d are Pending, want %d", len(e.Pending), i)
		}
		edits(t, e, ops(keep(1)), api.OK)
		edits(t, e, ops(keep(2)), api.ErrDeltaLength)
		e = after(t, e, ops(keep(1)))
	}
	edits(t, e, ops(keep(1)), api.ErrClientFull)
	edits(t, e, ops(keep(2)), api.ErrDeltaLength)
	edits(t, e, ops(keep(0)), api.ErrDeltaForm)
	// One that comes in makes room for one.
	e = nexts(t, e, next(1, 1, 1, keep(1)), api.OK)
	e = after(t, e, ops(keep(1)))
	if e.Seq != 9 || len(e.Pending) != 8 || e.Pending[0].Seq != 2 {
		t.Errorf("P20.2: %s", show(e))
	}
	edits(t, e, ops(keep(1)), api.ErrClientFull)
}

func TestEditOfTheLastSeq(t *testing.T) {
	for _, pending := range [][]api.Edit{nil, {waits(99998, keep(1))}} {
		e := api.Editor{Client: 1, Branch: 1, Text: "a", Seq: 99998, Pending: pending}
		edits(t, e, ops(keep(1)), api.OK)
		e = after(t, e, ops(keep(1)))
		edits(t, e, ops(keep(1)), api.OK)
		e = after(t, e, ops(gone(1)))
		if e.Seq != 100000 || e.Pending[len(e.Pending)-1].Seq != 100000 {
			t.Errorf("P20.2: %s", show(e))
		}
		edits(t, e, nil, api.ErrClientFull)
		edits(t, e, ops(keep(1)), api.ErrDeltaLength)
		edits(t, e, ops(keep(0)), api.ErrDeltaForm)
		accepted(t, e)
	}
	e := api.Editor{Client: 1, Branch: 1, Text: "a", Seq: 100000}
	edits(t, e, ops(keep(1)), api.ErrClientFull)
	accepted(t, e)
}

// wide is a delta of a text of 1000 code points with a long form: so many of them are put in anew, each alone, the first one behind so many others.
func wide(groups int, first int, put string) []api.Op {
	d := ops(keep(first), ins(put), gone(1))
	at := first + 1
	for range groups - 1 {
		d = append(d, keep(1), ins("😀"), gone(1))
		at += 2
	}
	if at < 1000 {
		d = append(d, keep(1000-at))
	}
	return d
}

// long is an editor on the branch 127 whose form has just so many bytes, and the last of its eight edits, which is not in it yet.
func long(t *testing.T, bytes int) (api.Editor, []api.Op) {
	t.Helper()
	e, f := client.Begin(1, 127, 0, repeat("😀", 1000))
	if f != api.OK {
		t.Fatalf("P20.1: %d", f)
	}
	for range 7 {
		e = after(t, e, wide(500, 1, "😀"))
	}
	for groups := 80; groups < 200; groups++ {
		for _, first := range []int{1, 128} {
			for _, put := range []string{"a", "é", "€", "😀"} {
				d := wide(groups, first, put)
				behind := plain(e)
				behind.Text, behind.Seq, behind.Pending = applied(e.Text, d), 8, append(behind.Pending, api.Edit{Seq: 8, Delta: d})
				if len(formOf(behind)) == bytes {
					return e, d
				}
			}
		}
	}
	t.Fatalf("the tests have no editor of %d bytes", bytes)
	return api.Editor{}, nil
}

func TestFormsAtTheEnd(t *testing.T) {
	for _, bytes := range []int{39999, 40000, 40001, 40002} {
		e, d := long(t, bytes)
		if bytes <= 40000 {
			edits(t, e, d, api.OK)
			form, f := client.Encode(after(t, e, d))
			if len(form) != bytes || f != api.OK || !holdDecode(t, form) {
				t.Errorf("P20.5: %d bytes, %d, want %d", len(form), f, bytes)
			}
		} else {
			edits(t, e, d, api.ErrClientFull)
		}
		// Such an editor may be, though it has no form.
		behind := plain(e)
		behind.Text, behind.Seq, behind.Pending = applied(e.Text, d), 8, append(behind.Pending, api.Edit{Seq: 8, Delta: d})
		accepted(t, behind)
		if is := holdDecode(t, formOf(behind)); is != (bytes <= 40000) {
			t.Errorf("P20.5: a form of %d bytes: %v", bytes, is)
		}
		edits(t, behind, ops(keep(1000)), api.ErrClientFull)
		edits(t, behind, ops(keep(999)), api.ErrDeltaLength)
	}
	// One byte more of the branch's number makes the difference.
	e, d := long(t, 40000)
	edits(t, e, d, api.OK)
	e.Branch = 128
	edits(t, e, d, api.ErrClientFull)
	// With all eight as wide as can be there is far too much, with seven not.
	edits(t, e, wide(500, 1, "😀"), api.ErrClientFull)
	edits(t, e, ops(keep(1000)), api.OK)
}

func TestNext(t *testing.T) {
	e := two()
	right := next(5, 2, 9, keep(3))
	for _, kind := range []int{math.MinInt, -1, 0, 1, 2, 4, math.MaxInt} {
		m := right
		m.Kind = kind
		nexts(t, e, m, api.ErrArg)
		m.Rev = 0
		nexts(t, e, m, api.ErrArg)
	}
	for _, n := range []int{math.MinInt, -1, 0, 2, 8, 9, math.MaxInt} {
		m := right
		m.Client = n
		nexts(t, e, m, api.ErrArg)
		m = right
		m.Branch = n
		nexts(t, e, m, api.ErrArg)
		m.Rev, m.Delta = 9, ops(keep(0))
		nexts(t, e, m, api.ErrArg)
	}
	for _, rev := range []int{math.MinInt, -1, 0, 3, 4} {
		nexts(t, e, next(rev, 2, 9, keep(3)), api.ErrStateOld)
		nexts(t, e, next(rev, 2, 9, keep(0)), api.ErrStateOld)
		nexts(t, e, next(rev, 1, 6, keep(1), ins("1"), keep(2)), api.ErrStateOld)
	}
	for _, rev := range []int{6, 7, 1000000, math.MaxInt} {
		nexts(t, e, next(rev, 2, 9, keep(3)), api.ErrStateGap)
		nexts(t, e, next(rev, 2, 9, keep(0)), api.ErrStateGap)
		nexts(t, e, next(rev, 1, 6, keep(1), ins("1"), keep(2)), api.ErrStateGap)
	}
	for _, d := range [][]api.Op{ops(keep(0)), ops(ins("")), ops(ins("\xff")), ops(api.Op{Kind: 4, N: 3}), slices.Repeat(ops(ins("a")), 3001)} {
		nexts(t, e, next(5, 2, 9, d...), api.ErrDeltaForm)
		nexts(t, e, next(5, 1, 6, d...), api.ErrDeltaForm)
	}
	for _, d := range [][]api.Op{nil, ops(keep(2)), ops(keep(4)), ops(ins("abc")), ops(keep(1000), keep(1)), ops(keep(3), ins(repeat("x", 998)))} {
		nexts(t, e, next(5, 2, 9, d...), api.ErrDeltaLength)
		nexts(t, e, next(5, 1, 6, d...), api.ErrDeltaLength)
	}
	behind := nexts(t, e, right, api.OK)
	want := two()
	want.Rev = 5
	if !same(behind, want) {
		t.Errorf("P20.3: %s", show(behind))
	}
}

// TestNextThatIsItsOwn: the first of Pending, come in as it was, or otherwise.
func TestNextThatIsItsOwn(t *testing.T) {
	e := two()
	behind := nexts(t, e, next(5, 1, 6, keep(1), ins("1"), keep(2)), api.OK)
	if !same(behind, api.Editor{Client: 1, Branch: 1, Rev: 5, Text: "a1b", Seq: 7, Pending: e.Pending[1:]}) {
		t.Errorf("P20.3: %s", show(behind))
	}
	last := nexts(t, behind, next(6, 1, 7, keep(3), gone(1)), api.OK)
	if !same(last, api.Editor{Client: 1, Branch: 1, Rev: 6, Text: "a1b", Seq: 7}) {
		t.Errorf("P20.3: %s", show(last))
	}
	// A form that is not normal is the same delta.
	if same := nexts(t, e, next(5, 1, 6, keep(1), ins("1"), keep(1), keep(1)), api.OK); len(same.Pending) != 1 {
		t.Errorf("P20.3: %s", show(same))
	}
	// With another delta it is none of this editor's.
	for _, d := range [][]api.Op{ops(keep(1), ins("2"), keep(2)), ops(ins("1"), keep(3)), ops(keep(3)), ops(keep(1), ins("1"), gone(2)), ops(gone(3))} {
		nexts(t, e, next(5, 1, 6, d...), api.ErrClientForm)
	}
	// With another one's number, or of another one, it is led through like any other.
	for _, m := range []api.Message{next(5, 1, 7, keep(3), ins("2")), next(5, 1, 5, keep(3), ins("2")), next(5, 1, 0, keep(3), ins("2")), next(5, 1, -6, keep(3), ins("2")), next(5, 0, 6, keep(3), ins("2")), next(5, 2, 6, keep(3), ins("2")), next(5, -1, 6, keep(3), ins("2")), next(5, 99, 6, keep(3), ins("2"))} {
		led := nexts(t, e, m, api.OK)
		if !same(led, api.Editor{Client: 1, Branch: 1, Rev: 5, Text: "a1b2", Seq: 7, Pending: []api.Edit{waits(6, keep(1), ins("1"), keep(3)), waits(7, keep(3), gone(1), keep(1))}}) {
			t.Errorf("P20.3: %s", show(led))
		}
	}
	// While nothing is Pending, too, whatever its Seq.
	for seq := range 9 {
		led := nexts(t, last, next(7, 1, seq, ins("x"), keep(3)), api.OK)
		if !same(led, api.Editor{Client: 1, Branch: 1, Rev: 7, Text: "xa1b", Seq: 7}) {
			t.Errorf("P20.3: %s", show(led))
		}
	}
	none := api.Editor{Client: 1, Branch: 1, Text: "a"}
	if led := nexts(t, none, next(1, 1, 0, gone(1)), api.OK); !same(led, api.Editor{Client: 1, Branch: 1, Rev: 1}) {
		t.Errorf("P20.3: %s", show(led))
	}
}

// TestNextThatIsLedThrough: through none, one and several of Pending.
func TestNextThatIsLedThrough(t *testing.T) {
	e := begun(t, "abc")
	for _, c := range []struct {
		edits [][]api.Op
		d     []api.Op
		text  string
	}{
		{nil, ops(keep(3)), "abc"},
		{nil, ops(gone(1), ins("x"), gone(1), keep(1)), "xc"},
		{[][]api.Op{ops(ins("1"), keep(3))}, ops(ins("x"), keep(3)), "x1abc"},
		{[][]api.Op{ops(ins("1"), gone(3))}, ops(keep(1), ins("x"), keep(2)), "1x"},
		{[][]api.Op{ops(keep(1), gone(1), keep(1))}, ops(gone(3)), ""},
		{[][]api.Op{ops(ins("1"), keep(3)), ops(keep(4), ins("2")), ops(keep(2), gone(1), keep(2))}, ops(keep(1), ins("x"), gone(1), keep(1), ins("y")), "1axcy2"},
		{[][]api.Op{ops(keep(3), ins("1")), ops(keep(4), ins("2"))}, ops(keep(3), ins("x")), "abcx12"},
	} {
		behind := nexts(t, after(t, e, c.edits...), next(1, 2, 1, c.d...), api.OK)
		if behind.Text != c.text || behind.Rev != 1 || len(behind.Pending) != len(c.edits) {
			t.Errorf("P20.3: %s over %s: %s, want %s", show(c.d), show(c.edits), show(behind), show(c.text))
		}
	}
}

// TestNextThatIsTooLong: somewhere on its way through Pending there would be more than 1000 code points.
func TestNextThatIsTooLong(t *testing.T) {
	e := begun(t, repeat("a", 998))
	one := ops(keep(998), ins("1"))
	m := next(1, 2, 1, ins("xy"), keep(998))
	nexts(t, e, m, api.OK)
	nexts(t, after(t, e, one), m, api.ErrDeltaLength)
	nexts(t, after(t, e, one), next(1, 2, 1, ins("x"), keep(998)), api.OK)
	nexts(t, after(t, e, one, ops(keep(999), ins("2"))), next(1, 2, 1, ins("x"), keep(998)), api.ErrDeltaLength)
	// In the first, or in the last alone, though at the end there would be room.
	nexts(t, after(t, e, one, ops(gone(500), keep(499))), m, api.ErrDeltaLength)
	nexts(t, after(t, e, ops(gone(500), keep(498)), ops(keep(498), ins(repeat("2", 501)))), m, api.ErrDeltaLength)
	nexts(t, after(t, e, ops(gone(500), keep(498)), ops(keep(498), ins(repeat("2", 500)))), m, api.OK)
	// Its own is led through nothing.
	own := nexts(t, after(t, e, ops(keep(998), ins("12")), ops(gone(1000))), next(1, 1, 1, keep(998), ins("1"), ins("2")), api.OK)
	if own.Text != "" || len(own.Pending) != 1 {
		t.Errorf("P20.3: %s", show(own))
	}
}

// TestNextAtTheLastRev: the words bound an editor, not the revisions that it takes.
func TestNextAtTheLastRev(t *testing.T) {
	e := api.Editor{Client: 1, Branch: 1, Rev: 999999, Text: "a", Seq: 1, Pending: []api.Edit{waits(1, keep(1))}}
	e = nexts(t, e, next(1000000, 2, 1, keep(1)), api.OK)
	accepted(t, e)
	for _, m := range []api.Message{next(1000001, 2, 1, keep(1)), next(1000001, 1, 1, keep(1))} {
		if e := nexts(t, e, m, api.OK); e.Rev != 1000001 {
			t.Errorf("P20.3: %s", show(e))
		}
	}
}

// TestNextThatMakesTheFormTooLong: an editor takes revisions in, whether its shelf can hold it or not.
func TestNextThatMakesTheFormTooLong(t *testing.T) {
	e, d := long(t, 40000)
	e = after(t, e, d)
	e.Rev = 127
	if form, f := client.Encode(e); f != api.OK || len(form) != 40000 {
		t.Errorf("P20.5: %d bytes, %d", len(form), f)
	}
	m := api.Message{Kind: api.MsgNext, Branch: 127, Client: 1, Rev: 128, Who: 2, Seq: 1, Delta: ops(keep(1000))}
	behind := nexts(t, e, m, api.OK)
	if form, f := client.Encode(behind); f != api.ErrClientFull || form != "" {
		t.Errorf("P20.5: %d bytes, %d", len(form), f)
	}
	holdSays(t, behind)
}

func TestSays(t *testing.T) {
	e := two()
	want := []api.Message{{Kind: api.MsgEdit, Branch: 1, Client: 1, Seq: 6, Rev: 4, Delta: ops(keep(1), ins("1"), keep(2))}, {Kind: api.MsgPull, Branch: 1, Client: 1, Rev: 4}}
	if l := client.Says(e); !sameMessages(l, want) {
		t.Errorf("P20.4: %s", show(l))
	}
	e = api.Editor{Client: 8, Branch: 1000000, Rev: 1000000, Text: "x", Seq: 100000, Pending: []api.Edit{waits(100000, ins("x"))}}
	want = []api.Message{{Kind: api.MsgEdit, Branch: 1000000, Client: 8, Seq: 100000, Rev: 1000000, Delta: ops(ins("x"))}, {Kind: api.MsgPull, Branch: 1000000, Client: 8, Rev: 1000000}}
	if l := client.Says(e); !sameMessages(l, want) {
		t.Errorf("P20.4: %s", show(l))
	}
	if l := client.Says(begun(t, "")); !sameMessages(l, []api.Message{{Kind: api.MsgPull, Branch: 1, Client: 1}}) {
		t.Errorf("P20.4: %s", show(l))
	}
}

func TestForm(t *testing.T) {
	e := two()
	e.Branch, e.Rev = 300, 128
	want := "\x01\xac\x02\x80\x01\x03a1b\x07\x02" + "\x08\x03\x01\x01\x02\x011\x01\x02" + "\x05\x02\x01\x03\x03\x01"
	if form, f := client.Encode(e); form != want || f != api.OK {
		t.Errorf("P20.5: %s, %d, want %s", show(form), f, show(want))
	}
	if back, f := client.Decode(want); !same(back, e) || f != api.OK {
		t.Errorf("P20.5: %s, %d", show(back), f)
	}
	if form, f := client.Encode(begun(t, "é")); form != "\x01\x01\x00\x02é\x00\x00" || f != api.OK {
		t.Errorf("P20.5: %s, %d", show(form), f)
	}
}

// bytewise goes through all texts that come of one by one byte that is another one, is gone, or is put in, and through its parts.
func bytewise(s string, see func(s string)) {
	for i := range len(s) + 1 {
		for c := range 256 {
			see(s[:i] + string([]byte{byte(c)}) + s[i:])
			if i < len(s) && byte(c) != s[i] {
				see(s[:i] + string([]byte{byte(c)}) + s[i+1:])
			}
		}
		if i < len(s) {
			see(s[:i] + s[i+1:])
			see(s[:i])
			see(s[i:])
		}
	}
}

func TestDecodeOfBentForms(t *testing.T) {
	for _, e := range []api.Editor{{Client: 1, Branch: 1}, {Client: 8, Branch: 300, Rev: 128, Text: "é", Seq: 200}, two(), {Client: 2, Branch: 1, Text: "", Seq: 3, Pending: []api.Edit{waits(1, ins("x")), waits(2, gone(1)), waits(3)}}} {
		form := formOf(e)
		if !holdDecode(t, form) {
			t.Errorf("P20.5: %s is no form", show(form))
		}
		bytewise(form, func(s string) {
			if !t.Failed() {
				holdDecode(t, s)
			}
		})
		for i := range form {
			if back, f := client.Decode(form[:i]); f != api.ErrClientForm || !same(back, api.Editor{}) {
				t.Errorf("P20.5: Decode(%s): %s, %d", show(form[:i]), show(back), f)
			}
		}
		for _, more := range []string{"\x00", "\x01", "x", form} {
			if back, f := client.Decode(form + more); f != api.ErrClientForm || !same(back, api.Editor{}) {
				t.Errorf("P20.5: Decode(%s): %s, %d", show(form+more), show(back), f)
			}
		}
		all := pen{}
		all.editor(e)
		for i := range all.nums {
			if longer := (&pen{longer: i + 1}).editor(e); holdDecode(t, longer) {
				t.Errorf("P20.5: %s is a form", show(longer))
			}
		}
	}
}

// TestDecodeOfEditorsThatMayNotBe: their forms, written out, are none.
func TestDecodeOfEditorsThatMayNotBe(t *testing.T) {
	for _, how := range []func(e *api.Editor){
		func(e *api.Editor) { e.Client = 0 }, func(e *api.Editor) { e.Client = 9 }, func(e *api.Editor) { e.Branch = 0 }, func(e *api.Editor) { e.Branch = 1000001 },
		func(e *api.Editor) { e.Rev = 1000001 }, func(e *api.Editor) { e.Text = "ab\xff" }, func(e *api.Editor) { e.Text = "ab" }, func(e *api.Editor) { e.Text = "abcd" },
		func(e *api.Editor) { e.Seq = 1 }, func(e *api.Editor) { e.Seq = 0 }, func(e *api.Editor) { e.Seq = 100001 },
		func(e *api.Editor) { e.Pending = slices.Repeat([]api.Edit{waits(1, keep(3))}, 9) },
		func(e *api.Editor) { e.Pending = []api.Edit{waits(7, keep(1), keep(2))} },
		func(e *api.Editor) { e.Pending = []api.Edit{waits(7, gone(1), ins("x"), keep(2))} },
		func(e *api.Editor) { e.Pending = []api.Edit{waits(7, ins("x"), ins("y"), keep(1))} },
		func(e *api.Editor) { e.Pending = []api.Edit{waits(7, keep(0), keep(3))} },
		func(e *api.Editor) { e.Pending = []api.Edit{waits(7, keep(3), ins(""))} },
		func(e *api.Editor) { e.Pending = []api.Edit{waits(7, keep(1000), ins("x"))} },
		func(e *api.Editor) { e.Pending = []api.Edit{waits(6, keep(4)), waits(7, keep(3))} },
		func(e *api.Editor) { e.Pending, e.Text = nil, repeat("a", 1001) },
		func(e *api.Editor) { e.Pending, e.Text = nil, repeat("a", 20001) },
	} {
		e := plain(two())
		how(&e)
		if form := formOf(e); holdDecode(t, form) {
			t.Errorf("P20.5: %s is a form", show(form))
		}
	}
	eight := plain(two())
	eight.Seq, eight.Pending = 8, nil
	for i := range 8 {
		eight.Pending = append(eight.Pending, waits(i+1, keep(3)))
	}
	if !holdDecode(t, formOf(eight)) {
		t.Errorf("P20.5: an editor with eight Pending has no form")
	}
	for _, n := range []int{1, 8, 9, 127, 1 << 32, 1 << 50, 1<<50 + 1, math.MaxInt} {
		for _, behind := range []string{"", "\x00", "\x01\x00", repeat("\x01\x00", 8), repeat("\x01\x00", 9), repeat("\x01\x00", 50000)} {
			p := pen{}
			p.num(1, 1, 0)
			p.text("")
			p.num(100, n)
			holdDecode(t, string(p.form)+behind)
		}
	}
}

// TestDecodeOfAllShortTexts: up to eight bytes out of five.
func TestDecodeOfAllShortTexts(t *testing.T) {
	forms := 0
	var walk func(s string, left int)
	walk = func(s string, left int) {
		if holdDecode(t, s) {
			forms++
		}
		if left == 0 || t.Failed() {
			return
		}
		for _, c := range []byte{0, 1, 2, 'a', 128} {
			walk(s+string([]byte{c}), left-1)
		}
	}
	walk("", 8)
	if forms < 50 {
		t.Errorf("only %d were forms", forms)
	}
}

// someDelta is one of a text of n code points, often not normal.
func someDelta(r *rand.Rand, n int) []api.Op {
	var d []api.Op
	for n > 0 {
		m := 1 + r.Intn(n)
		switch r.Intn(6) {
		case 0:
			d, n = append(d, gone(m)), n-m
		case 1, 2, 3:
			d, n = append(d, keep(m)), n-m
		default:
			d = append(d, ins(strings.Repeat([]string{"x", "é", "€", "😀"}[r.Intn(4)], 1+r.Intn(3))))
		}
	}
	if r.Intn(3) == 0 {
		d = append(d, ins("z"))
	}
	return d
}

// shows holds that what is Pending makes of a revision's text what the editor shows.
func shows(t *testing.T, e api.Editor, revision string) {
	t.Helper()
	if utf8.RuneCountInString(revision) != baseOf(e) {
		t.Errorf("P20.6: the base of %s is not that of %s", show(e), show(revision))
		return
	}
	s := revision
	for _, p := range e.Pending {
		s = applied(s, p.Delta)
	}
	if s != e.Text {
		t.Errorf("P20.6: %s shows %s, its Pending make %s of %s", show(e), show(e.Text), show(s), show(revision))
	}
}

// TestEveryShortEdit: all deltas of a short text, over up to two of Pending, all of the same kinds.
func TestEveryShortEdit(t *testing.T) {
	// of are the deltas of a text of n code points, of at most two changes.
	of := func(n int, put string) [][]api.Op {
		var l [][]api.Op
		add := func(d ...api.Op) {
			l = append(l, slices.DeleteFunc(d, func(o api.Op) bool { return o.N == 0 && o.Text == "" }))
		}
		for i := range n + 1 {
			add(keep(i), ins(put), keep(n-i))
			for j := i; j < n; j++ {
				add(keep(i), gone(j-i+1), keep(n-j-1))
				add(keep(i), ins(put), gone(j-i+1), keep(n-j-1))
				add(keep(i), ins(put), keep(j-i+1), ins(put), keep(n-j-1))
			}
		}
		return l
	}
	led := 0
	base := begun(t, "abc")
	see := func(e api.Editor) {
		for _, d := range of(3, "x") {
			behind, f := holdNext(t, e, next(1, 2, 1, d...))
			if f != api.OK {
				t.Fatalf("P20.3: %d", f)
			}
			shows(t, behind, applied("abc", d))
			led++
		}
	}
	see(base)
	for _, a := range of(3, "1") {
		one := after(t, base, a)
		see(one)
		for _, b := range of(len(one.Text), "2") {
			see(after(t, one, b))
		}
	}
	if led < 10000 {
		t.Errorf("only %d were led through", led)
	}
}

// TestWalks: edits and revisions at random, some of them wrong.
func TestWalks(t *testing.T) {
	counts := map[api.Errno]int{}
	for seed := range 400 {
		r := rand.New(rand.NewSource(int64(seed)))
		revision := repeat("ab", r.Intn(3))
		e := begun(t, revision)
		for range 60 {
			was := e
			var f api.Errno
			if r.Intn(2) == 0 {
				e, f = holdEdit(t, e, someDelta(r, max(0, utf8.RuneCountInString(e.Text)+(r.Intn(12)-1)/10)))
			} else {
				m := next(e.Rev+1, r.Intn(3), e.Seq-len(e.Pending)+1, someDelta(r, baseOf(e))...)
				if m.Who == 1 && len(e.Pending) > 0 && r.Intn(4) > 0 {
					m.Delta = e.Pending[0].Delta
				}
				if r.Intn(12) == 0 {
					m.Rev += r.Intn(3) - 1
				}
				if e, f = holdNext(t, e, m); f == api.OK {
					revision = applied(revision, m.Delta)
				}
			}
			counts[f]++
			if f != api.OK && !same(e, was) {
				t.Fatalf("R3: %s, %d", show(e), f)
			}
			shows(t, e, revision)
			holdSays(t, e)
			holdForm(t, e)
			if t.Failed() {
				t.Fatalf("in the walk %d", seed)
			}
		}
	}
	for _, f := range []api.Errno{api.OK, api.ErrDeltaLength, api.ErrStateOld, api.ErrStateGap, api.ErrClientForm, api.ErrClientFull} {
		if counts[f] < 10 {
			t.Errorf("the walks met the error %d only %d times", f, counts[f])
		}
	}
}

func TestAnswersAreNewMemory(t *testing.T) {
	s := repeat("words ", 3)
	e, _ := client.Begin(1, 1, 0, s)
	apart(t, "Begin", e, s)
	d := slices.Grow(ops(ins("longer"), ins("words"), keep(18)), 9)
	given := []any{e, d}
	one, _ := client.Edit(e, d)
	apart(t, "Edit", one, given...)
	one.Pending = slices.Grow(one.Pending, 9)
	one.Pending[0].Delta = slices.Grow(one.Pending[0].Delta, 9)
	other, _ := client.Edit(one, ops(keep(29), ins("more")))
	apart(t, "Edit", other, one)
	m := next(1, 2, 1, slices.Grow(ops(ins("theirs"), keep(18)), 9)...)
	led, f := client.Next(other, m)
	if f != api.OK {
		t.Fatalf("P20.3: %d", f)
	}
	apart(t, "Next", led, other, m)
	bare, _ := client.Next(e, m)
	apart(t, "Next of none", bare, e, m)
	own := next(1, 1, 1, ops(ins("longerwords"), keep(18))...)
	confirmed, f := client.Next(other, own)
	if f != api.OK {
		t.Fatalf("P20.3: %d", f)
	}
	apart(t, "Next of its own", confirmed, other, own)
	apart(t, "Says", client.Says(other), other)
	form, _ := client.Encode(other)
	apart(t, "Encode", form, other)
	back, f := client.Decode(form)
	if f != api.OK {
		t.Fatalf("P20.5: %d", f)
	}
	apart(t, "Decode", back, form)
}

// TestAnswersMayBeWrittenInto: two editors that came of one do not show in each other.
func TestAnswersMayBeWrittenInto(t *testing.T) {
	e := two()
	a, _ := client.Edit(e, ops(keep(3), ins("x")))
	b, _ := client.Edit(e, ops(ins("y"), keep(3)))
	a.Pending[0].Delta[0], a.Pending[2].Delta[0] = api.Op{}, api.Op{}
	l := client.Says(e)
	l[0].Delta[0] = api.Op{}
	n, _ := client.Next(e, next(5, 1, 6, keep(1), ins("1"), keep(2)))
	n.Pending[0].Delta[0] = api.Op{}
	if !same(e, two()) || !mayBe(b) || b.Text != "ya1b" {
		t.Errorf("R5: %s, %s", show(e), show(b))
	}
}
