package doc_test

import (
	"fmt"
	"math"
	"math/rand"
	"slices"
	"strings"
	"testing"
	"unicode/utf8"
	"unsafe"

	"oxbow/api"
	"oxbow/delta"
	"oxbow/doc"
)

func keep(n int) api.Op        { return api.Op{Kind: api.OpKeep, N: n} }
func gone(n int) api.Op        { return api.Op{Kind: api.OpDelete, N: n} }
func ins(s string) api.Op      { return api.Op{Kind: api.OpInsert, Text: s} }
func ops(l ...api.Op) []api.Op { return l }

func run(client int, seq int, from int, s string) api.Run {
	return api.Run{Origin: api.Origin{Client: client, Seq: seq}, From: from, Text: s}
}
func runs(l ...api.Run) []api.Run { return l }

func origin(client int, seq int) api.Origin { return api.Origin{Client: client, Seq: seq} }

// show tells a document or a delta in a line, however long it is.
func show[T any](l []T) string {
	const most = 8
	var out []string
	for _, x := range l[:min(most, len(l))] {
		s := fmt.Sprintf("%+q", fmt.Sprint(x))
		out = append(out, s[:min(len(s), 60)])
	}
	if len(l) > most {
		out = append(out, fmt.Sprintf(".. %d in all", len(l)))
	}
	return "[" + strings.Join(out, ", ") + "]"
}

// A unit is an atom of the tests' own, with its code point.
type unit struct {
	client, seq, num int
	point            rune
}

func (u unit) origin() api.Origin { return origin(u.client, u.seq) }

// unitsOf are the atoms of a document, one behind the other.
func unitsOf(l []api.Run) []unit {
	var all []unit
	for _, r := range l {
		for i, p := range []rune(r.Text) {
			all = append(all, unit{r.Origin.Client, r.Origin.Seq, r.From + i, p})
		}
	}
	return all
}

// runsOf is the document of atoms, in as few runs as there can be.
func runsOf(all []unit) []api.Run {
	var l []api.Run
	for i, u := range all {
		if i > 0 && all[i-1].origin() == u.origin() && all[i-1].num+1 == u.num {
			l[len(l)-1].Text += string(u.point)
		} else {
			l = append(l, run(u.client, u.seq, u.num, string(u.point)))
		}
	}
	return l
}

// mayBe is P12.1 by its words.
func mayBe(l []api.Run) bool {
	for _, r := range l {
		o := r.Origin
		if o.Client < 0 || o.Client > 8 || o.Seq < 1 || o.Seq > 100000 || r.Text == "" || !utf8.ValidString(r.Text) || r.From < 0 {
			return false
		}
	}
	all := unitsOf(l)
	if len(all) > 1000 || !slices.Equal(runsOf(all), l) {
		return false
	}
	met := map[unit]bool{}
	for _, u := range all {
		u.point = 0
		if met[u] || u.num > 999 {
			return false
		}
		met[u] = true
	}
	return true
}

// became are the atoms behind a delta, by P12.3's words.
func became(all []unit, d []api.Op, o api.Origin) []unit {
	var out []unit
	at, num := 0, 0
	for _, op := range d {
		switch op.Kind {
		case api.OpKeep:
			out = append(out, all[at:at+op.N]...)
			at += op.N
		case api.OpDelete:
			at += op.N
		case api.OpInsert:
			for _, p := range op.Text {
				out = append(out, unit{o.Client, o.Seq, num, p})
				num++
			}
		}
	}
	return out
}

// wantRuns holds that a call answered this document, and not an error.
func wantRuns(t *testing.T, what string, got []api.Run, e api.Errno, want []api.Run) {
	t.Helper()
	if !slices.Equal(got, want) || e != api.OK {
		t.Errorf("%s: %s, %d, want %s", what, show(got), e, show(want))
	}
}

// wantNone holds that a call answered this error, and nothing beside it.
func wantNone(t *testing.T, what string, got []api.Run, e api.Errno, want api.Errno) {
	t.Helper()
	if len(got) != 0 || e != want {
		t.Errorf("%s: %s, %d, want %d", what, show(got), e, want)
	}
}

// refused holds that a document that may not be is refused by every call.
func refused(t *testing.T, l []api.Run) {
	t.Helper()
	if e := doc.Check(l); e != api.ErrDocForm {
		t.Errorf("P12.1: Check(%s): %d", show(l), e)
	}
	// R2: Check's error is named first.
	for _, d := range [][]api.Op{nil, ops(keep(max(1, doc.Len(l)))), ops(keep(0)), ops(keep(1000), keep(1))} {
		for _, o := range []api.Origin{origin(7, 77), origin(0, 0)} {
			got, e := doc.Apply(l, d, o)
			wantNone(t, "P12.3: Apply of "+show(l), got, e, api.ErrDocForm)
		}
	}
	for _, place := range [][2]int{{0, 0}, {0, 1}, {-1, 0}, {1, 0}, {0, 5000}} {
		got, e := doc.Slice(l, place[0], place[1])
		wantNone(t, "P12.4: Slice of "+show(l), got, e, api.ErrDocForm)
	}
	for _, other := range [][]api.Run{nil, runs(run(7, 77, 0, "a")), l} {
		got, e := doc.Join(l, other)
		wantNone(t, "P12.4: Join of "+show(l), got, e, api.ErrDocForm)
		got, e = doc.Join(other, l)
		wantNone(t, "P12.4: Join with "+show(l), got, e, api.ErrDocForm)
	}
	for _, i := range []int{-1, 0, 1} {
		if o, n, ok := doc.At(l, i); o != (api.Origin{}) || n != 0 || ok {
			t.Errorf("P12.5: At(%s, %d): %d, %d, %v", show(l), i, o, n, ok)
		}
	}
}

func wantAt(t *testing.T, l []api.Run, i int, u unit) {
	t.Helper()
	if o, n, ok := doc.At(l, i); o != u.origin() || n != u.num || !ok {
		t.Errorf("P12.5: At(%s, %d): %d, %d, %v, want %v", show(l), i, o, n, ok, u)
	}
}

// accepted holds that a document may be, and what its calls answer that hang on it alone.
func accepted(t *testing.T, l []api.Run) {
	const most = 20 // atoms of a long document that are asked for
	t.Helper()
	all := unitsOf(l)
	if e := doc.Check(l); e != api.OK {
		t.Errorf("P12.1: Check(%s): %d", show(l), e)
	}
	if n := doc.Len(l); n != len(all) {
		t.Errorf("P12.2: Len(%s): %d, want %d", show(l), n, len(all))
	}
	for i := 0; i < len(all); i += 1 + len(all)/most {
		wantAt(t, l, i, all[i])
	}
	if len(all) > 0 {
		wantAt(t, l, len(all)-1, all[len(all)-1])
	}
	for _, i := range []int{-1, len(all), len(all) + 1, math.MinInt, math.MaxInt} {
		if o, n, ok := doc.At(l, i); o != (api.Origin{}) || n != 0 || ok {
			t.Errorf("P12.5: At(%s, %d): %d, %d, %v", show(l), i, o, n, ok)
		}
	}
}

func TestExamples(t *testing.T) {
	first, e := doc.Apply(nil, ops(ins("abc")), origin(0, 2))
	wantRuns(t, "P12.3", first, e, runs(run(0, 2, 0, "abc")))
	second, e := doc.Apply(first, ops(keep(1), ins("x"), gone(1), keep(1)), origin(1, 1))
	wantRuns(t, "P12.3", second, e, runs(run(0, 2, 0, "a"), run(1, 1, 0, "x"), run(0, 2, 2, "c")))
	if e := doc.Check(runs(run(0, 2, 0, "a"), run(0, 2, 1, "b"))); e != api.ErrDocForm {
		t.Errorf("P12.1: %d", e)
	}
}

// full are the runs of so many atoms, of one code point each, no two of which could be one: two origins take turns.
func full(n int) []api.Run {
	var l []api.Run
	for i := range n {
		l = append(l, run(i%2, 5, i/2, "é"))
	}
	return l
}

func TestDocumentsThatMayBe(t *testing.T) {
	for _, l := range [][]api.Run{
		nil, {},
		runs(run(0, 1, 0, "a")), runs(run(8, 1, 0, "a")), runs(run(0, 100000, 0, "a")), runs(run(8, 100000, 0, "a")), // the least and the greatest origin
		runs(run(0, 1, 999, "a")), runs(run(0, 1, 997, "é€😀")), // a last number of 999
		runs(run(0, 1, 0, strings.Repeat("a", 1000))), runs(run(3, 7, 0, strings.Repeat("😀", 1000))), // 1000 atoms
		runs(run(0, 1, 0, "\x00")), runs(run(0, 1, 0, "\ufffd")), runs(run(0, 1, 0, "\U0010ffff\ud7ff\ue000")),
		runs(run(0, 1, 0, "a"), run(0, 1, 2, "b")),                     // a number is left out
		runs(run(0, 1, 1, "b"), run(0, 1, 0, "a")),                     // the other way round
		runs(run(0, 1, 2, "bc"), run(0, 1, 0, "a")),                    // more so
		runs(run(0, 1, 0, "a"), run(1, 1, 1, "b")),                     // the next number, another Client
		runs(run(0, 1, 0, "a"), run(0, 2, 1, "b")),                     // the next number, another Seq
		runs(run(0, 1, 0, "é"), run(0, 1, 2, "b")),                     // next by bytes, not by code points
		runs(run(0, 1, 0, "ab"), run(0, 1, 3, "d"), run(0, 1, 2, "c")), // next to the one that isn't ahead
		runs(run(0, 1, 0, "a"), run(0, 2, 0, "x"), run(0, 1, 1, "b")),  // another one between
		runs(run(0, 1, 0, "a"), run(1, 1, 0, "a"), run(0, 2, 0, "a")),  // the same number of other origins
		runs(run(1, 2, 0, "a"), run(2, 1, 0, "a")),
		runs(run(0, 1, 999, "a"), run(0, 1, 0, strings.Repeat("b", 999))),
		runs(run(0, 1, 0, strings.Repeat("b", 999)), run(1, 1, 0, "c")),
		runs(run(0, 1, 500, strings.Repeat("b", 500)), run(0, 1, 0, strings.Repeat("b", 500))),
		full(1000),
	} {
		accepted(t, l)
	}
}

func TestDocumentsThatMayNotBe(t *testing.T) {
	for _, r := range wrongRuns() {
		good := run(2, 3, 0, "ab")
		for _, l := range [][]api.Run{{r}, {r, good}, {good, r}, {good, r, run(2, 3, 4, "e")}} {
			refused(t, l)
		}
	}
	thousand := strings.Repeat("a", 1000)
	for _, l := range [][]api.Run{
		// Runs that could be one.
		runs(run(0, 2, 0, "a"), run(0, 2, 1, "b")),
		runs(run(0, 2, 0, "é€"), run(0, 2, 2, "😀")),
		runs(run(8, 100000, 998, "a"), run(8, 100000, 999, "b")),
		runs(run(1, 1, 0, "x"), run(0, 2, 4, "a"), run(0, 2, 5, "b"), run(1, 1, 1, "y")),
		runs(run(0, 2, 0, "a"), run(1, 2, 0, "a"), run(1, 2, 1, "b")),
		// An atom stands twice.
		runs(run(0, 2, 0, "a"), run(0, 2, 0, "a")),
		runs(run(0, 2, 0, "a"), run(0, 2, 0, "b")),
		runs(run(0, 2, 0, "ab"), run(0, 2, 1, "b")),
		runs(run(0, 2, 0, "abc"), run(0, 2, 2, "cd")),
		runs(run(0, 2, 2, "cd"), run(0, 2, 0, "abc")),
		runs(run(0, 2, 0, "abc"), run(0, 2, 1, "b")),
		runs(run(0, 2, 1, "b"), run(0, 2, 0, "abc")),
		runs(run(0, 2, 0, "a"), run(1, 2, 0, "x"), run(0, 2, 0, "a")),
		append(full(999), run(0, 5, 0, "é")),
		append(full(998), run(8, 8, 0, "x"), run(0, 5, 498, "é")),
		// More than 1000 atoms.
		runs(run(0, 1, 0, thousand), run(1, 1, 0, "b")),
		runs(run(1, 1, 0, "b"), run(0, 1, 0, thousand)),
		runs(run(0, 1, 0, strings.Repeat("é", 600)), run(1, 1, 0, strings.Repeat("é", 401))),
		runs(run(0, 1, 0, thousand), run(1, 1, 0, thousand)),
		full(1001),
		full(1500),
	} {
		refused(t, l)
	}
}

// wrongRuns are runs that may not be, whatever stands beside them.
func wrongRuns() []api.Run {
	var l []api.Run
	for _, client := range []int{-1, 9, 10, -8, 1 << 32, math.MinInt, math.MaxInt} {
		l = append(l, run(client, 1, 0, "a"), run(client, 100000, 999, "a"))
	}
	for _, seq := range []int{0, -1, 100001, 1 << 20, 1<<32 + 1, math.MinInt, math.MaxInt} {
		l = append(l, run(0, seq, 0, "a"), run(8, seq, 999, "a"))
	}
	for _, from := range []int{-1, -2, -1000, 1000, 1001, 1 << 32, -1 << 32, math.MinInt, math.MaxInt, math.MaxInt - 1} {
		l = append(l, run(0, 1, from, "a"), run(0, 1, from, "abc"), run(8, 1, from, "é€😀"))
	}
	for _, s := range []string{"ab", "é€😀", strings.Repeat("a", 1000)} {
		l = append(l, run(0, 1, 1001-utf8.RuneCountInString(s), s)) // the last number is 1000
	}
	for _, s := range []string{"", "\xff", "a\xff", "\xffa", "\xc3", "é\xc3", "\xa9", "\xc0\x80", "\xed\xa0\x80", "\xf4\x90\x80\x80", strings.Repeat("a", 1001), strings.Repeat("é", 100000)} {
		l = append(l, run(0, 1, 0, s), run(3, 5, 5, s))
	}
	l = append(l, api.Run{}, api.Run{Text: "a"}, api.Run{Origin: origin(1, 1)})
	return l
}

func TestTextAndLen(t *testing.T) {
	for _, c := range []struct {
		l    []api.Run
		want string
		n    int
	}{
		{nil, "", 0},
		{runs(), "", 0},
		{runs(run(0, 1, 0, "aé"), run(1, 1, 0, "€"), run(0, 1, 2, "😀")), "aé€😀", 4},
		// Whatever the runs are.
		{runs(api.Run{}), "", 0},
		{runs(run(-1, -1, -1, "ab"), run(-1, -1, -1, "ab")), "abab", 4},
		{runs(run(0, 1, 0, "a"), run(0, 1, 1, ""), run(0, 1, 1, "b")), "ab", 2},
		{runs(run(0, 1, 0, "\xff")), "\xff", -1},
		{runs(run(0, 1, 0, "a"), run(1, 1, 0, "b\xff"), run(0, 1, 1, "c")), "ab\xffc", -1},
		{runs(run(0, 1, 0, "\xc3"), run(0, 1, 1, "\xa9")), "é", 1}, // it is the whole that is valid
		{runs(run(0, 1, 0, "\xa9"), run(0, 1, 1, "\xc3")), "\xa9\xc3", -1},
		{runs(run(0, 1, 0, strings.Repeat("é", 3000)), run(0, 1, 0, "a")), strings.Repeat("é", 3000) + "a", 3001},
	} {
		if s := doc.Text(c.l); s != c.want {
			t.Errorf("P12.2: Text(%s): %.40q, want %.40q", show(c.l), s, c.want)
		}
		if n := doc.Len(c.l); n != c.n {
			t.Errorf("P12.2: Len(%s): %d, want %d", show(c.l), n, c.n)
		}
	}
}

func TestApply(t *testing.T) {
	l := runs(run(0, 2, 0, "ab"), run(1, 1, 0, "é"), run(0, 2, 2, "cd")) // abécd
	for _, c := range []struct {
		l    []api.Run
		d    []api.Op
		want []api.Run
	}{
		{nil, nil, nil},
		{nil, ops(ins("é€😀")), runs(run(3, 9, 0, "é€😀"))},
		{l, ops(keep(5)), l},
		{l, ops(gone(5)), nil},
		{l, ops(keep(2), gone(1), keep(2)), runs(run(0, 2, 0, "abcd"))},                  // what was apart is one run again
		{l, ops(keep(1), gone(2), keep(2)), runs(run(0, 2, 0, "a"), run(0, 2, 2, "cd"))}, // and here it isn't
		{l, ops(gone(2), keep(1), gone(2)), runs(run(1, 1, 0, "é"))},
		{l, ops(keep(1), ins("x"), keep(4)), runs(run(0, 2, 0, "a"), run(3, 9, 0, "x"), run(0, 2, 1, "b"), run(1, 1, 0, "é"), run(0, 2, 2, "cd"))},
		// Several places: the numbers go on.
		{l, ops(ins("€x"), keep(2), ins("y"), keep(3), ins("zz")), runs(run(3, 9, 0, "€x"), run(0, 2, 0, "ab"), run(3, 9, 2, "y"), run(1, 1, 0, "é"), run(0, 2, 2, "cd"), run(3, 9, 3, "zz"))},
		// What is put in becomes one run, if all between is deleted.
		{l, ops(ins("xy"), gone(5), ins("z")), runs(run(3, 9, 0, "xyz"))},
		{l, ops(ins("x"), gone(2), ins("y"), gone(1), ins("z"), keep(2)), runs(run(3, 9, 0, "xyz"), run(0, 2, 2, "cd"))},
		// Deltas that are not normal.
		{l, ops(keep(1), keep(1), keep(1), keep(2)), l},
		{l, ops(keep(1), gone(1), ins("x"), ins("y"), gone(1), keep(1), keep(1)), runs(run(0, 2, 0, "a"), run(3, 9, 0, "xy"), run(0, 2, 2, "cd"))},
		{l, ops(keep(2), gone(1), ins("é"), keep(2)), runs(run(0, 2, 0, "ab"), run(3, 9, 0, "é"), run(0, 2, 2, "cd"))},
		{nil, ops(ins("a"), ins("b"), ins("c")), runs(run(3, 9, 0, "abc"))},
		// What is deleted and put in again is new.
		{runs(run(0, 1, 0, "a")), ops(gone(1), ins("a")), runs(run(3, 9, 0, "a"))},
	} {
		got, e := doc.Apply(c.l, c.d, origin(3, 9))
		wantRuns(t, "P12.3: Apply of "+show(c.d)+" to "+show(c.l), got, e, c.want)
	}
}

func TestApplyGreatest(t *testing.T) {
	thousand := strings.Repeat("€", 1000)
	got, e := doc.Apply(nil, ops(ins(thousand)), origin(8, 100000))
	wantRuns(t, "P12.3", got, e, runs(run(8, 100000, 0, thousand)))
	got, e = doc.Apply(got, ops(gone(1000), ins(thousand)), origin(0, 1))
	wantRuns(t, "P12.3", got, e, runs(run(0, 1, 0, thousand)))
	got, e = doc.Apply(got, slices.Repeat(ops(gone(1), ins("a")), 1000), origin(0, 2))
	wantRuns(t, "P12.3", got, e, runs(run(0, 2, 0, strings.Repeat("a", 1000))))
	got, e = doc.Apply(got, slices.Repeat(ops(gone(1), ins("a"), keep(1)), 500), origin(0, 3))
	var want []api.Run
	for i := range 500 {
		want = append(want, run(0, 3, i, "a"), run(0, 2, 2*i+1, "a"))
	}
	wantRuns(t, "P12.3", got, e, want)
	got, e = doc.Apply(want, slices.Repeat(ops(keep(1), gone(1)), 500), origin(0, 1))
	wantRuns(t, "P12.3", got, e, runs(run(0, 3, 0, strings.Repeat("a", 500))))
	// One more than can be, whatever would be kept.
	got, e = doc.Apply(full(1000), ops(keep(1000), ins("a")), origin(0, 1))
	wantNone(t, "P12.3", got, e, api.ErrDeltaLength)
	got, e = doc.Apply(full(1), ops(keep(1), ins(thousand)), origin(0, 1))
	wantNone(t, "P12.3", got, e, api.ErrDeltaLength)
	got, e = doc.Apply(nil, ops(ins(thousand), ins("a")), origin(0, 1))
	wantNone(t, "P12.3", got, e, api.ErrDeltaLength)
}

func TestApplyRefuses(t *testing.T) {
	l := runs(run(0, 2, 0, "ab"), run(1, 1, 0, "é"), run(0, 2, 2, "cd"))
	good, taken, none := origin(3, 9), origin(1, 1), origin(9, 1)
	for _, c := range []struct {
		d    []api.Op
		o    api.Origin
		want api.Errno
	}{
		{ops(keep(0)), good, api.ErrDeltaForm},
		{ops(keep(5), ins("")), good, api.ErrDeltaForm},
		{ops(keep(5), ins("\xff")), good, api.ErrDeltaForm},
		{ops(keep(5), api.Op{Kind: 4, N: 1}), good, api.ErrDeltaForm},
		{slices.Repeat(ops(ins("a")), 3001), good, api.ErrDeltaForm},
		{ops(keep(5), ins(strings.Repeat("a", 996))), good, api.ErrDeltaLength},
		{ops(keep(5), gone(996)), good, api.ErrDeltaLength},
		{ops(keep(1000), keep(1), keep(0)), good, api.ErrDeltaForm},
		// The base is another length: more, less, the bytes', none.
		{ops(keep(6)), good, api.ErrDeltaLength},
		{ops(keep(4)), good, api.ErrDeltaLength},
		{ops(keep(4), gone(2)), good, api.ErrDeltaLength},
		{ops(gone(4), ins("a")), good, api.ErrDeltaLength},
		{nil, good, api.ErrDeltaLength},
		{ops(ins("abcde")), good, api.ErrDeltaLength},
		// Which comes first.
		{ops(keep(0)), none, api.ErrDeltaForm},
		{ops(keep(1000), keep(1)), none, api.ErrDeltaLength},
		{ops(keep(4)), none, api.ErrDeltaLength},
		{ops(keep(4)), taken, api.ErrDeltaLength},
		// The origin.
		{ops(keep(5)), none, api.ErrArg},
		{ops(keep(5)), taken, api.ErrArg},
		{ops(keep(5)), origin(0, 2), api.ErrArg},
		{ops(keep(5), ins("x")), taken, api.ErrArg},
		{ops(gone(5)), taken, api.ErrArg},
		{ops(keep(2), gone(1), keep(2), ins("x")), taken, api.ErrArg}, // though that atom goes
		{ops(keep(5), ins("x")), origin(-1, 1), api.ErrArg},
		{ops(keep(5), ins("x")), origin(0, 0), api.ErrArg},
		{ops(keep(5), ins("x")), origin(0, 100001), api.ErrArg},
		{ops(keep(5), ins("x")), origin(math.MaxInt, math.MinInt), api.ErrArg},
		{ops(keep(5), ins("x")), origin(1<<32, 1<<32+1), api.ErrArg},
		{ops(keep(5), ins("x")), api.Origin{}, api.ErrArg},
	} {
		got, e := doc.Apply(l, c.d, c.o)
		wantNone(t, fmt.Sprint("P12.3: Apply of ", show(c.d), " of ", c.o), got, e, c.want)
	}
	// Half of an origin is not the origin.
	for _, o := range []api.Origin{origin(1, 2), origin(0, 1), origin(0, 100000), origin(8, 1), origin(8, 100000)} {
		got, e := doc.Apply(l, ops(keep(5), ins("x")), o)
		wantRuns(t, fmt.Sprint("P12.3: Apply of ", o), got, e, append(slices.Clone(l), run(o.Client, o.Seq, 0, "x")))
	}
	got, e := doc.Apply(nil, nil, none)
	wantNone(t, "P12.3: Apply to no runs", got, e, api.ErrArg)
}

func TestSlice(t *testing.T) {
	l := runs(run(0, 2, 0, "ab"), run(1, 1, 0, "é€"), run(0, 2, 2, "cd")) // abé€cd
	for _, c := range []struct {
		from, to int
		want     []api.Run
	}{
		{0, 6, l}, {0, 0, nil}, {3, 3, nil}, {6, 6, nil},
		{0, 1, runs(run(0, 2, 0, "a"))}, {1, 2, runs(run(0, 2, 1, "b"))}, {0, 2, l[:1]}, {2, 4, l[1:2]}, {4, 6, l[2:]}, {5, 6, runs(run(0, 2, 3, "d"))},
		{1, 3, runs(run(0, 2, 1, "b"), run(1, 1, 0, "é"))},
		{3, 5, runs(run(1, 1, 1, "€"), run(0, 2, 2, "c"))},
		{1, 5, runs(run(0, 2, 1, "b"), run(1, 1, 0, "é€"), run(0, 2, 2, "c"))},
	} {
		got, e := doc.Slice(l, c.from, c.to)
		wantRuns(t, fmt.Sprintf("P12.4: Slice(.., %d, %d)", c.from, c.to), got, e, c.want)
	}
	for _, place := range [][2]int{{-1, 0}, {-1, -1}, {-1, 6}, {1, 0}, {6, 5}, {0, 7}, {7, 7}, {0, -1}, {6, 7}, {math.MinInt, math.MaxInt}, {math.MaxInt, math.MaxInt}, {math.MinInt, math.MinInt}, {0, math.MaxInt}, {5, math.MinInt}, {0, 9}} {
		got, e := doc.Slice(l, place[0], place[1])
		wantNone(t, fmt.Sprint("P12.4: Slice of ", place), got, e, api.ErrArg)
	}
	got, e := doc.Slice(nil, 0, 0)
	wantRuns(t, "P12.4: Slice of no runs", got, e, nil)
	got, e = doc.Slice(nil, 0, 1)
	wantNone(t, "P12.4: Slice of no runs", got, e, api.ErrArg)
	got, e = doc.Slice(full(1000), 0, 1000)
	wantRuns(t, "P12.4: Slice of 1000", got, e, full(1000))
	got, e = doc.Slice(full(1000), 0, 1001)
	wantNone(t, "P12.4: Slice of 1001", got, e, api.ErrArg)
}

func TestJoin(t *testing.T) {
	thousand := strings.Repeat("é", 1000)
	for _, c := range []struct{ a, b, want []api.Run }{
		{nil, nil, nil},
		{full(3), nil, full(3)},
		{nil, full(3), full(3)},
		{runs(run(0, 2, 0, "a")), runs(run(0, 2, 1, "b")), runs(run(0, 2, 0, "ab"))}, // they become one
		{runs(run(1, 1, 0, "x"), run(0, 2, 3, "é€")), runs(run(0, 2, 5, "😀"), run(1, 1, 1, "y")), runs(run(1, 1, 0, "x"), run(0, 2, 3, "é€😀"), run(1, 1, 1, "y"))},
		{runs(run(0, 2, 0, "a")), runs(run(0, 2, 2, "b")), runs(run(0, 2, 0, "a"), run(0, 2, 2, "b"))}, // and these don't
		{runs(run(0, 2, 1, "a")), runs(run(0, 2, 0, "b")), runs(run(0, 2, 1, "a"), run(0, 2, 0, "b"))},
		{runs(run(0, 2, 0, "é")), runs(run(0, 2, 2, "b")), runs(run(0, 2, 0, "é"), run(0, 2, 2, "b"))},
		{runs(run(0, 2, 0, "a")), runs(run(1, 2, 1, "b")), runs(run(0, 2, 0, "a"), run(1, 2, 1, "b"))},
		{runs(run(0, 2, 0, "a")), runs(run(0, 3, 1, "b")), runs(run(0, 2, 0, "a"), run(0, 3, 1, "b"))},
		{full(500), runs(run(3, 3, 0, thousand[:1000])), append(full(500), run(3, 3, 0, thousand[:1000]))},
		{runs(run(0, 1, 0, thousand)), nil, runs(run(0, 1, 0, thousand))},
		{nil, runs(run(0, 1, 0, thousand)), runs(run(0, 1, 0, thousand))},
		{runs(run(0, 1, 0, thousand[:1200])), runs(run(0, 1, 600, thousand[1200:])), runs(run(0, 1, 0, thousand))},
	} {
		got, e := doc.Join(c.a, c.b)
		wantRuns(t, "P12.4: Join of "+show(c.a)+" and "+show(c.b), got, e, c.want)
	}
	for _, c := range []struct{ a, b []api.Run }{
		// An atom stands twice.
		{runs(run(0, 2, 0, "a")), runs(run(0, 2, 0, "a"))},
		{runs(run(0, 2, 0, "ab")), runs(run(0, 2, 1, "b"))},
		{runs(run(0, 2, 0, "a"), run(1, 1, 0, "b")), runs(run(1, 1, 1, "c"), run(0, 2, 0, "a"))},
		{full(3), full(3)},
		{full(500), full(1)},
		// There are more than 1000.
		{runs(run(0, 1, 0, thousand)), runs(run(0, 2, 0, "a"))},
		{runs(run(0, 2, 0, "a")), runs(run(0, 1, 0, thousand))},
		{full(501), runs(run(3, 3, 0, thousand[:1000]))},
		{full(1000), runs(run(3, 3, 0, thousand))},
	} {
		got, e := doc.Join(c.a, c.b)
		wantNone(t, "P12.4: Join of "+show(c.a)+" and "+show(c.b), got, e, api.ErrDocForm)
	}
}

// rowsOf are all rows of at most so many of these, the shorter ones first.
func rowsOf[T any](from []T, most int) [][]T {
	all := [][]T{nil}
	for at := 0; len(all[at]) < most; at++ {
		for _, x := range from {
			all = append(all, append(slices.Clone(all[at]), x))
		}
	}
	return all
}

// parts holds all Slices of a document against the model, and that the two sides of each cut are joined to what they were.
func parts(t *testing.T, l []api.Run) {
	t.Helper()
	all := unitsOf(l)
	for from := -1; from <= len(all)+1; from++ {
		for to := -1; to <= len(all)+1; to++ {
			got, e := doc.Slice(l, from, to)
			what := fmt.Sprintf("P12.4: Slice(%s, %d, %d)", show(l), from, to)
			if from < 0 || to < from || to > len(all) {
				wantNone(t, what, got, e, api.ErrArg)
			} else {
				wantRuns(t, what, got, e, runsOf(all[from:to]))
			}
		}
	}
	for at := range len(all) + 1 {
		a, _ := doc.Slice(l, 0, at)
		b, _ := doc.Slice(l, at, len(all))
		got, e := doc.Join(a, b)
		wantRuns(t, "P12.6: joined again", got, e, l)
	}
}

// pair holds a Join against the model.
func pair(t *testing.T, a []api.Run, b []api.Run) {
	t.Helper()
	got, e := doc.Join(a, b)
	what := "P12.4: Join of " + show(a) + " and " + show(b)
	want := runsOf(append(unitsOf(a), unitsOf(b)...))
	if mayBe(want) {
		wantRuns(t, what, got, e, want)
	} else {
		wantNone(t, what, got, e, api.ErrDocForm)
	}
}

// step holds an Apply against the model, and P12.6; it answers what the model has.
func step(t *testing.T, l []api.Run, d []api.Op, o api.Origin) []api.Run {
	t.Helper()
	was, wasDelta := slices.Clone(l), slices.Clone(d)
	all := became(unitsOf(l), d, o)
	want := runsOf(all)
	got, e := doc.Apply(l, d, o)
	wantRuns(t, "P12.3: Apply of "+show(d)+" to "+show(l), got, e, want)
	if doc.Check(got) != api.OK {
		t.Errorf("P12.3: %s may not be", show(got))
	}
	if s, e := delta.Apply(doc.Text(l), d); s != doc.Text(got) || e != api.OK {
		t.Errorf("P12.6: Apply of %s to %s: %.40q, want %.40q", show(d), show(l), doc.Text(got), s)
	}
	if !slices.Equal(l, was) || !slices.Equal(d, wasDelta) {
		t.Errorf("R5: Apply of %s to %s has changed one", show(wasDelta), show(was))
	}
	return want
}

// shortRuns are runs that stand in each other's way.
func shortRuns() []api.Run {
	var l []api.Run
	for _, o := range []api.Origin{origin(0, 1), origin(1, 1)} {
		for from := range 3 {
			l = append(l, api.Run{Origin: o, From: from, Text: "a"}, api.Run{Origin: o, From: from, Text: "bé"})
		}
	}
	return l
}

func TestAllShortDocuments(t *testing.T) {
	for _, l := range rowsOf(shortRuns(), 4) {
		want := api.ErrDocForm
		if mayBe(l) {
			want = api.OK
			accepted(t, l)
		}
		if e := doc.Check(l); e != want {
			t.Errorf("P12.1: Check(%s): %d, want %d", show(l), e, want)
		}
		if want == api.OK && len(l) < 4 {
			parts(t, l)
		}
		if t.Failed() {
			return
		}
	}
}

// TestWrongRunsAmongOthers goes through rows in which each of the faults may be.
func TestWrongRunsAmongOthers(t *testing.T) {
	var from []api.Run
	for _, o := range []api.Origin{origin(0, 1), origin(8, 100000), origin(9, 1), origin(0, 0)} {
		for _, at := range []int{-1, 0, 1, 998, 999} {
			for _, s := range []string{"", "é", "\xff", "ab"} {
				from = append(from, api.Run{Origin: o, From: at, Text: s})
			}
		}
	}
	for _, l := range rowsOf(from, 2) {
		want := api.ErrDocForm
		if mayBe(l) {
			want = api.OK
		}
		if e := doc.Check(l); e != want {
			t.Fatalf("P12.1: Check(%s): %d, want %d", show(l), e, want)
		}
	}
}

func TestAllShortJoins(t *testing.T) {
	var all [][]api.Run
	for _, l := range rowsOf(shortRuns(), 2) {
		if mayBe(l) {
			all = append(all, l)
		}
	}
	for _, a := range all {
		for _, b := range all {
			pair(t, a, b)
		}
		if t.Failed() {
			return
		}
	}
}

func TestAllShortDeltas(t *testing.T) {
	byBase := map[int][][]api.Op{}
	for _, d := range rowsOf(ops(keep(1), keep(2), gone(1), gone(2), ins("x"), ins("€y")), 4) {
		base, _ := delta.Base(d)
		byBase[base] = append(byBase[base], d)
	}
	for _, l := range rowsOf(shortRuns(), 2) {
		if !mayBe(l) {
			continue
		}
		for base, all := range byBase {
			for _, d := range all {
				if base == doc.Len(l) {
					step(t, l, d, origin(0, 2))
					continue
				}
				got, e := doc.Apply(l, d, origin(0, 2))
				wantNone(t, "P12.3: Apply of "+show(d)+" to "+show(l), got, e, api.ErrDeltaLength)
			}
		}
		if t.Failed() {
			return
		}
	}
}

// someDelta is a delta of a base, whose target is not too long.
func someDelta(r *rand.Rand, base int) []api.Op {
	points := []rune("abcé€😀\x00\ufffd")
	var d []api.Op
	room := 1000 - base
	for base > 0 || r.Intn(3) == 0 {
		n := 1 + r.Intn(1+r.Intn(1+base))
		switch r.Intn(4) {
		case 0, 1:
			if n = min(n, base); n > 0 {
				d = append(d, keep(n))
				base -= n
			}
		case 2:
			if n = min(n, base, 1+r.Intn(20)); n > 0 {
				d = append(d, gone(n))
				base, room = base-n, room+n
			}
		case 3:
			var put []rune
			for range min(r.Intn(12), room) {
				put = append(put, points[r.Intn(len(points))])
			}
			if len(put) > 0 {
				d = append(d, ins(string(put)))
				room -= len(put)
			}
		}
		if len(d) > 2900 {
			break
		}
	}
	return d
}

func TestWalks(t *testing.T) {
	for seed := range int64(30) {
		r := rand.New(rand.NewSource(seed))
		var l, other []api.Run
		if seed%4 == 0 {
			l = step(t, nil, ops(ins(strings.Repeat("aé", 480))), origin(8, 100000))
		}
		for i := range 60 {
			was := unitsOf(l)
			l = step(t, l, someDelta(r, doc.Len(l)), origin(i%9, 1+i))
			keptInOrder(t, was, unitsOf(l), origin(i%9, 1+i))
			accepted(t, l)
			n := doc.Len(l)
			from := r.Intn(n + 1)
			to := from + r.Intn(n-from+1)
			part, e := doc.Slice(l, from, to)
			wantRuns(t, "P12.4: Slice", part, e, runsOf(unitsOf(l)[from:to]))
			pair(t, part, other)
			pair(t, other, part)
			pair(t, l, part)
			threeParts(t, l, from, to)
			if r.Intn(4) == 0 {
				other = part
			}
			if t.Failed() {
				return
			}
		}
	}
}

// keptInOrder holds that the atoms behind a delta are old ones, in their order, and new ones of an origin, numbered from 0 on.
func keptInOrder(t *testing.T, was []unit, is []unit, o api.Origin) {
	t.Helper()
	at, num := 0, 0
	for _, u := range is {
		if u.origin() == o {
			if u.num != num {
				t.Fatalf("P12.3: a new atom has the number %d, want %d", u.num, num)
			}
			num++
			continue
		}
		for at < len(was) && was[at] != u {
			at++
		}
		if at == len(was) {
			t.Fatalf("P12.6: the atom %v is no old one behind the others", u)
		}
		at++
	}
}

// threeParts holds that a document in three parts is joined to what it was.
func threeParts(t *testing.T, l []api.Run, from int, to int) {
	t.Helper()
	a, _ := doc.Slice(l, 0, from)
	b, _ := doc.Slice(l, from, to)
	c, _ := doc.Slice(l, to, doc.Len(l))
	ab, _ := doc.Join(a, b)
	got, e := doc.Join(ab, c)
	wantRuns(t, "P12.6: joined from the left", got, e, l)
	bc, _ := doc.Join(b, c)
	got, e = doc.Join(a, bc)
	wantRuns(t, "P12.6: joined from the right", got, e, l)
}

// overlap tells whether two texts have memory in common. (Those of one byte the language may lay where it will.)
func overlap(a string, b string) bool {
	x, y := uintptr(unsafe.Pointer(unsafe.StringData(a))), uintptr(unsafe.Pointer(unsafe.StringData(b)))
	return len(a) > 1 && len(b) > 1 && x < y+uintptr(len(b)) && y < x+uintptr(len(a))
}

// TestNewMemory holds that no answer shares memory with what was handed in or with another answer, and that nothing handed in is changed.
func TestNewMemory(t *testing.T) {
	word := strings.Clone("some text é€")
	put := strings.Clone("what is put in")
	l := runs(run(0, 1, 0, word[:5]), run(1, 1, 0, word[5:]), run(0, 1, 5, word))
	behind := runs(run(0, 1, 17, word[:4]), run(2, 2, 0, word))
	n := doc.Len(l)
	answers := func() [][]api.Run {
		var all [][]api.Run
		for _, d := range [][]api.Op{{keep(n)}, {ins(put), keep(n)}, {keep(3), gone(2), keep(n - 5), ins(put)}} {
			got, _ := doc.Apply(l, d, origin(5, 5))
			all = append(all, got)
		}
		for _, place := range [][2]int{{0, n}, {2, 9}, {5, n}} {
			got, _ := doc.Slice(l, place[0], place[1])
			all = append(all, got)
		}
		for _, other := range [][]api.Run{nil, behind} {
			got, _ := doc.Join(l, other)
			more, _ := doc.Join(nil, other)
			all = append(all, got, more)
		}
		return all
	}
	wasRuns, wasBehind := slices.Clone(l), slices.Clone(behind)
	first, second := answers(), answers()
	for i, got := range first {
		for j, r := range got {
			if overlap(r.Text, word) || overlap(r.Text, put) || overlap(r.Text, second[i][j].Text) {
				t.Errorf("R5: %q of answer %d is not new", r.Text, i)
			}
		}
		got = got[:cap(got)]
		for j := range got {
			got[j] = run(7, 7, 7, "gone")
		}
	}
	third := answers()
	for i, got := range second {
		if !slices.Equal(got, third[i]) {
			t.Errorf("R5: answer %d was changed: %s, %s", i, show(got), show(third[i]))
		}
	}
	if !slices.Equal(l, wasRuns) || !slices.Equal(behind, wasBehind) {
		t.Errorf("R5: %s, %s", show(l), show(behind))
	}
	if s := doc.Text(runs(run(0, 1, 0, word))); overlap(s, word) {
		t.Error("R5: the text is not new")
	}
}
