package delta_test

import (
	"fmt"
	"math"
	"math/rand"
	"slices"
	"strings"
	"testing"
	"unicode/utf8"
	"unsafe"

	"oxbow/api"
	"oxbow/delta"
)

func keep(n int) api.Op        { return api.Op{Kind: api.OpKeep, N: n} }
func gone(n int) api.Op        { return api.Op{Kind: api.OpDelete, N: n} }
func ins(s string) api.Op      { return api.Op{Kind: api.OpInsert, Text: s} }
func ops(l ...api.Op) []api.Op { return l }

// show tells a delta in a line, however long it is.
func show(d []api.Op) string {
	const most = 12
	var l []string
	for _, o := range d[:min(most, len(d))] {
		l = append(l, fmt.Sprintf("%d %d %.40q", o.Kind, o.N, o.Text))
	}
	if len(d) > most {
		l = append(l, fmt.Sprintf(".. %d in all", len(d)))
	}
	return "[" + strings.Join(l, ", ") + "]"
}

// times is a row of operations, so many times.
func times(n int, l ...api.Op) []api.Op { return slices.Repeat(l, n) }

// refused holds that a delta ends every call with this error, and with nothing beside it.
func refused(t *testing.T, d []api.Op, want api.Errno) {
	t.Helper()
	if e := delta.Check(d); e != want {
		t.Errorf("P9.1: Check(%s): %d, want %d", show(d), e, want)
	}
	if n, e := delta.Base(d); n != 0 || e != want {
		t.Errorf("P9.1: Base(%s): %d, %d, want %d", show(d), n, e, want)
	}
	if n, e := delta.Target(d); n != 0 || e != want {
		t.Errorf("P9.1: Target(%s): %d, %d, want %d", show(d), n, e, want)
	}
	if l, e := delta.Normal(d); len(l) != 0 || e != want {
		t.Errorf("P9.2: Normal(%s): %s, %d, want %d", show(d), show(l), e, want)
	}
	for _, s := range []string{"", "a", strings.Repeat("a", 1000), strings.Repeat("a", 1001)} {
		if got, e := delta.Apply(s, d); got != "" || e != want {
			t.Errorf("P9.3: Apply of %s: %.40q, %d, want %d", show(d), got, e, want)
		}
	}
	if got, e := delta.Apply("a\xff", d); got != "" || e != api.ErrText {
		t.Errorf("P9.3: Apply(a byte 255, %s): %.40q, %d", show(d), got, e)
	}
	if s, e := delta.Encode(d); s != "" || e != want {
		t.Errorf("P9.4: Encode(%s): %.40q, %d, want %d", show(d), s, e, want)
	}
}

// accepted holds that a delta may be, and has these lengths.
func accepted(t *testing.T, d []api.Op, base int, target int) {
	t.Helper()
	if e := delta.Check(d); e != api.OK {
		t.Errorf("P9.1: Check(%s): %d", show(d), e)
	}
	if n, e := delta.Base(d); n != base || e != api.OK {
		t.Errorf("P9.1: Base(%s): %d, %d, want %d", show(d), n, e, base)
	}
	if n, e := delta.Target(d); n != target || e != api.OK {
		t.Errorf("P9.1: Target(%s): %d, %d, want %d", show(d), n, e, target)
	}
}

// wrongOps are operations that may not be.
func wrongOps() []api.Op {
	l := []api.Op{{}, ins(""), {Kind: api.OpInsert, N: 1}}
	for _, kind := range []int{api.OpKeep, api.OpDelete} {
		for _, n := range []int{0, -1, -1000, 1001, 1002, 1 << 32, 1<<32 + 1, math.MinInt, math.MaxInt} {
			l = append(l, api.Op{Kind: kind, N: n}, api.Op{Kind: kind, N: n, Text: "a"})
		}
		for _, s := range []string{"a", "é", "\x00", "\xff", strings.Repeat("a", 1001)} {
			l = append(l, api.Op{Kind: kind, N: 1, Text: s}, api.Op{Kind: kind, N: 1000, Text: s}, api.Op{Kind: kind, Text: s})
		}
	}
	for _, n := range []int{1, -1, 2, 1000, 1001, 1 << 32, math.MinInt, math.MaxInt} {
		l = append(l, api.Op{Kind: api.OpInsert, N: n, Text: "a"}, api.Op{Kind: api.OpInsert, N: n})
	}
	for _, s := range []string{"\xff", "a\xff", "\xffa", "\xc3", "é\xc3", "\xc0\x80", "\xed\xa0\x80", "\xf4\x90\x80\x80", "\xf0\x9f\x98", strings.Repeat("a", 999) + "\x80", strings.Repeat("a", 2000) + "\x80"} {
		l = append(l, ins(s))
	}
	for _, kind := range []int{0, 4, 5, -1, -2, -3, 1<<32 + 1, math.MinInt, math.MaxInt} {
		l = append(l, api.Op{Kind: kind, N: 1}, api.Op{Kind: kind, Text: "a"}, api.Op{Kind: kind}, api.Op{Kind: kind, N: 1, Text: "a"})
	}
	return l
}

func TestWrongOperations(t *testing.T) {
	for _, o := range wrongOps() {
		refused(t, ops(o), api.ErrDeltaForm)
		refused(t, ops(o, keep(1), ins("b")), api.ErrDeltaForm)
		refused(t, ops(ins("b"), o, gone(2)), api.ErrDeltaForm)
		refused(t, ops(keep(2), gone(1), o), api.ErrDeltaForm)
		refused(t, ops(keep(1000), ins("b"), o), api.ErrDeltaForm) // R2: ErrDeltaForm is named first
		refused(t, ops(o, gone(1000), gone(1)), api.ErrDeltaForm)
		refused(t, append(times(2999, keep(1000)), o), api.ErrDeltaForm)
	}
}

func TestOperationsThatMayBe(t *testing.T) {
	accepted(t, nil, 0, 0)
	accepted(t, ops(), 0, 0)
	accepted(t, ops(keep(1)), 1, 1)
	accepted(t, ops(keep(1000)), 1000, 1000)
	accepted(t, ops(gone(1)), 1, 0)
	accepted(t, ops(gone(1000)), 1000, 0)
	for _, s := range []string{"a", "\x00", "é", "€", "😀", "\ufffd", "\ud7ff", "\ue000", "\U0010ffff"} {
		accepted(t, ops(ins(s)), 0, 1)
		accepted(t, ops(ins(strings.Repeat(s, 1000))), 0, 1000)
		refused(t, ops(ins(strings.Repeat(s, 1001))), api.ErrDeltaLength)
	}
	accepted(t, ops(ins("aé€😀")), 0, 4)
	accepted(t, ops(keep(2), ins("aé€😀"), gone(3), ins("b"), keep(4), gone(5)), 14, 11)
}

func TestHowManyOperations(t *testing.T) {
	// Each operation takes a code point of the base or of the target, so that more than 2000 are too long, if not too many.
	accepted(t, times(1000, gone(1), ins("a")), 1000, 1000)
	accepted(t, times(500, keep(1), gone(1), ins("é")), 1000, 1000)
	accepted(t, times(1000, keep(1)), 1000, 1000)
	refused(t, append(times(1000, gone(1), ins("a")), gone(1)), api.ErrDeltaLength)
	refused(t, append(times(1000, gone(1), ins("a")), ins("a")), api.ErrDeltaLength)
	for _, o := range []api.Op{keep(1), gone(1), ins("a"), keep(1000), gone(1000), ins("😀")} {
		refused(t, times(2999, o), api.ErrDeltaLength)
		refused(t, times(3000, o), api.ErrDeltaLength)
		refused(t, times(3001, o), api.ErrDeltaForm)
		refused(t, times(3500, o), api.ErrDeltaForm)
	}
}

func TestLengthsOf1000And1001(t *testing.T) {
	long := strings.Repeat("é", 999)
	accepted(t, ops(keep(999), gone(1)), 1000, 999)
	accepted(t, ops(keep(999), ins("é")), 999, 1000)
	accepted(t, ops(keep(500), gone(500), ins(strings.Repeat("é", 500))), 1000, 1000)
	accepted(t, ops(gone(1000), ins(long), ins("b")), 1000, 1000)
	refused(t, ops(keep(1000), ins("x")), api.ErrDeltaLength)
	refused(t, ops(ins("x"), keep(1000)), api.ErrDeltaLength)
	refused(t, ops(keep(1000), keep(1)), api.ErrDeltaLength)
	refused(t, ops(keep(1000), gone(1)), api.ErrDeltaLength)
	refused(t, ops(gone(1), keep(1000)), api.ErrDeltaLength)
	refused(t, ops(gone(1000), gone(1)), api.ErrDeltaLength)
	refused(t, ops(gone(1000), ins(long), ins("bc")), api.ErrDeltaLength)
	refused(t, ops(ins(long), keep(2)), api.ErrDeltaLength)
	refused(t, ops(ins(long), ins("b"), ins("c"), gone(5)), api.ErrDeltaLength)
}

func TestExamples(t *testing.T) {
	if d, e := delta.Normal(ops(gone(1), ins("x"), gone(1), keep(1), keep(2))); !slices.Equal(d, ops(ins("x"), gone(2), keep(3))) || e != api.OK {
		t.Errorf("P9.2: %s, %d", show(d), e)
	}
	if d, e := delta.Normal(nil); len(d) != 0 || e != api.OK {
		t.Errorf("P9.2: of no operations: %s, %d", show(d), e)
	}
	change := ops(keep(1), ins("é"), gone(1), keep(1))
	if s, e := delta.Apply("abc", change); s != "aéc" || e != api.OK {
		t.Errorf("P9.3: %q, %d", s, e)
	}
	if s, e := delta.Apply("ab", change); s != "" || e != api.ErrDeltaLength {
		t.Errorf("P9.3: %q, %d", s, e)
	}
	for _, d := range [][]api.Op{ops(keep(0)), ops(ins("")), {{Kind: 4, N: 1}}, {{Kind: 4}}, {{Kind: api.OpKeep, N: 1, Text: "a"}}} {
		refused(t, d, api.ErrDeltaForm)
	}
	refused(t, ops(keep(1000), ins("x")), api.ErrDeltaLength)
	if s, e := delta.Encode(ops(ins("x"), keep(3))); s != "\x02\x02\x01x\x01\x03" || e != api.OK {
		t.Errorf("P9.4: %q, %d", s, e)
	}
}

func TestNormal(t *testing.T) {
	for _, c := range []struct{ d, want []api.Op }{
		{ops(), ops()},
		{ops(keep(1)), ops(keep(1))},
		{ops(keep(1), keep(2), keep(3)), ops(keep(6))},
		{ops(gone(1), gone(2), gone(3)), ops(gone(6))},
		{ops(ins("a"), ins("é"), ins("€😀")), ops(ins("aé€😀"))},
		{ops(gone(1), ins("a")), ops(ins("a"), gone(1))},
		{ops(ins("a"), gone(1)), ops(ins("a"), gone(1))},
		{ops(ins("b"), gone(1), ins("a"), gone(2), ins("c")), ops(ins("bac"), gone(3))},
		{ops(keep(1), gone(1), ins("a"), keep(1)), ops(keep(1), ins("a"), gone(1), keep(1))},
		{ops(keep(1), gone(1), keep(1)), ops(keep(1), gone(1), keep(1))},
		{ops(keep(1), ins("a"), keep(1)), ops(keep(1), ins("a"), keep(1))},
		{ops(keep(1), keep(1), ins("a"), keep(2), keep(2), gone(1), gone(1)), ops(keep(2), ins("a"), keep(4), gone(2))},
		{ops(gone(1), keep(1), gone(1), ins("a"), keep(1), ins("b"), gone(1), ins("c")), ops(gone(1), keep(1), ins("a"), gone(1), keep(1), ins("bc"), gone(1))},
		{times(1000, keep(1)), ops(keep(1000))},
		{times(1000, gone(1), ins("é")), ops(ins(strings.Repeat("é", 1000)), gone(1000))},
		{times(500, keep(1), gone(1), ins("é")), times(500, keep(1), ins("é"), gone(1))},
	} {
		if d, e := delta.Normal(c.d); !slices.Equal(d, c.want) || e != api.OK {
			t.Errorf("P9.2: Normal(%s): %s, %d, want %s", show(c.d), show(d), e, show(c.want))
		}
	}
}

// An item of a row is a code point of the base (from 0 on), or one that was put in (from is -1).
type item struct {
	from  int
	point rune
}

// became is the row of items that a delta makes of a text.
func became(s []rune, d []api.Op) []item {
	var row []item
	at := 0
	for _, o := range d {
		for _, r := range o.Text {
			row = append(row, item{-1, r})
		}
		for range o.N {
			if o.Kind == api.OpKeep {
				row = append(row, item{at, s[at]})
			}
			at++
		}
	}
	return row
}

func textOf(row []item) string {
	var b strings.Builder
	for _, i := range row {
		b.WriteRune(i.point)
	}
	return b.String()
}

// normalOf is the normal delta that makes a row of a base of n code points, by the word's own meaning: ahead of each item that is kept, and behind the last one, what was put in, then what is gone.
func normalOf(n int, row []item) []api.Op {
	var d []api.Op
	kept, put, at := 0, "", 0
	change := func(to int) {
		if put == "" && to == at {
			return
		}
		if kept > 0 {
			d = append(d, keep(kept))
		}
		if put != "" {
			d = append(d, ins(put))
		}
		if to > at {
			d = append(d, gone(to-at))
		}
		kept, put = 0, ""
	}
	for _, i := range row {
		if i.from < 0 {
			put += string(i.point)
			continue
		}
		change(i.from)
		kept, at = kept+1, i.from+1
	}
	change(n)
	if kept > 0 {
		d = append(d, keep(kept))
	}
	return d
}

// isNormal is the chapter's word, read literally.
func isNormal(d []api.Op) bool {
	shape := ""
	for _, o := range d {
		shape += string("?kid"[o.Kind])
	}
	gaps := strings.Split(shape, "k")
	for i, gap := range gaps {
		inner := i > 0 && i < len(gaps)-1
		if gap != "i" && gap != "d" && gap != "id" && (gap != "" || inner) {
			return false
		}
	}
	return true
}

// everyDelta goes through all rows of at most so many of these operations.
func everyDelta(most int, of []api.Op, see func(d []api.Op)) {
	var d []api.Op
	var deeper func(left int)
	deeper = func(left int) {
		see(d)
		for _, o := range of {
			if left > 0 {
				d = append(d, o)
				deeper(left - 1)
				d = d[:len(d)-1]
			}
		}
	}
	deeper(most)
}

var fewOps = []api.Op{keep(1), keep(2), gone(1), gone(2), ins("x"), ins("yé")}

func lengthsOf(d []api.Op) (base int, target int) {
	for _, o := range d {
		switch o.Kind {
		case api.OpKeep:
			base, target = base+o.N, target+o.N
		case api.OpDelete:
			base += o.N
		case api.OpInsert:
			target += utf8.RuneCountInString(o.Text)
		}
	}
	return base, target
}

var alphabet = []rune{'a', 'b', 0, 0x7f, 'é', 0x7ff, '€', 0xfffd, '😀', 0x10ffff}

func anyText(r *rand.Rand, n int) string {
	var b strings.Builder
	for range n {
		b.WriteRune(alphabet[r.Intn(len(alphabet))])
	}
	return b.String()
}

// anyDelta is a delta that may be, of any length, by pieces of at most so many code points.
func anyDelta(r *rand.Rand, piece int) []api.Op {
	var d []api.Op
	for base, target, left := 0, 0, r.Intn(1000); left > 0; left-- {
		n := 1 + r.Intn(piece)
		o := ins(anyText(r, n))
		switch r.Intn(4) {
		case 0, 1:
			o = keep(n)
		case 2:
			o = gone(n)
		}
		b, g := lengthsOf(ops(o))
		base, target = base+b, target+g
		if base > 1000 || target > 1000 {
			break
		}
		d = append(d, o)
	}
	return d
}

// holds holds a delta against the meanings of all calls.
func holds(t *testing.T, s string, d []api.Op) {
	t.Helper()
	was := slices.Clone(d)
	base, target := lengthsOf(d)
	accepted(t, d, base, target)
	row := became([]rune(s), d)
	if got, e := delta.Apply(s, d); got != textOf(row) || e != api.OK {
		t.Errorf("P9.3: Apply(%q, %s): %q, %d, want %q", s, show(d), got, e, textOf(row))
	}
	n, e := delta.Normal(d)
	if !slices.Equal(n, normalOf(base, row)) || !isNormal(n) || e != api.OK {
		t.Errorf("P9.2: Normal(%s): %s, %d, want %s", show(d), show(n), e, show(normalOf(base, row)))
	}
	if again, e := delta.Normal(n); !slices.Equal(again, n) || e != api.OK {
		t.Errorf("P9.5: Normal of %s: %s, %d", show(n), show(again), e)
	}
	if isNormal(d) && !slices.Equal(n, d) {
		t.Errorf("P9.5: Normal of the normal %s: %s", show(d), show(n))
	}
	if got, e := delta.Apply(s, n); got != textOf(row) || e != api.OK {
		t.Errorf("P9.5: Apply(%q, %s): %q, %d, want %q", s, show(n), got, e, textOf(row))
	}
	form, e := delta.Encode(d)
	if form != formOf(d) || e != api.OK {
		t.Errorf("P9.4: Encode(%s): %q, %d, want %q", show(d), form, e, formOf(d))
	}
	if back, e := delta.Decode(form); !slices.Equal(back, d) || e != api.OK {
		t.Errorf("P9.5: Decode of Encode of %s: %s, %d", show(d), show(back), e)
	}
	if !slices.Equal(d, was) {
		t.Errorf("R5: %s has become %s", show(was), show(d))
	}
}

func TestEveryShortDelta(t *testing.T) {
	text := []rune("a€b😀é\x00cdefg")
	everyDelta(5, fewOps, func(d []api.Op) {
		if t.Failed() {
			return
		}
		base, _ := lengthsOf(d)
		holds(t, string(text[:base]), d)
	})
}

func TestAnyDelta(t *testing.T) {
	r := rand.New(rand.NewSource(9))
	for i := range 1500 {
		d := anyDelta(r, []int{1, 2, 10, 300}[i%4])
		base, _ := lengthsOf(d)
		holds(t, anyText(r, base), d)
		if t.Failed() {
			return
		}
	}
}

// TestOneNormal: normal deltas that keep the same and give the same are the same (so of all short ones, no two).
func TestOneNormal(t *testing.T) {
	text := []rune("abcdefghij")
	seen := map[string][]api.Op{}
	everyDelta(5, []api.Op{keep(1), keep(2), gone(1), gone(2), ins("x"), ins("xx")}, func(d []api.Op) {
		base, _ := lengthsOf(d)
		n, _ := delta.Normal(d)
		key := string(rune(base))
		for _, i := range became(text[:base], d) {
			key += string(rune(i.from+1)) + string(i.point)
		}
		if other, ok := seen[key]; ok && !slices.Equal(other, n) {
			t.Errorf("P9.5: %s and %s do the same", show(other), show(n))
		}
		seen[key] = n
	})
}

func TestApplyErrors(t *testing.T) {
	change := ops(keep(1), ins("é"), gone(1), keep(1))
	for _, c := range []struct {
		s    string
		d    []api.Op
		want string
		e    api.Errno
	}{
		{"", nil, "", api.OK},
		{"", ops(ins("aé€😀")), "aé€😀", api.OK},
		{"a", nil, "", api.ErrDeltaLength},
		{"", ops(keep(1)), "", api.ErrDeltaLength},
		{"", change, "", api.ErrDeltaLength},
		{"abc", change, "aéc", api.OK},
		{"é€😀", change, "éé😀", api.OK},
		{"abcd", change, "", api.ErrDeltaLength},
		{"é", ops(keep(2)), "", api.ErrDeltaLength}, // two bytes there are, two code points there are not
		{"é€😀", ops(gone(3)), "", api.OK},
		{"é€😀", ops(gone(9)), "", api.ErrDeltaLength},
		{"\xff", ops(keep(1)), "", api.ErrText},
		{"ab\xff", change, "", api.ErrText},
		{"\xff", ops(keep(0)), "", api.ErrText}, // R2: ErrText is named first
		{"\xff", ops(keep(1000), ins("x")), "", api.ErrText},
		{"\xed\xa0\x80", ops(keep(1)), "", api.ErrText},
		{"ab", ops(keep(1), keep(0)), "", api.ErrDeltaForm},
		{"ab", ops(keep(1000), ins("x")), "", api.ErrDeltaLength},
		{strings.Repeat("😀", 1000), ops(keep(1000)), strings.Repeat("😀", 1000), api.OK},
		{strings.Repeat("😀", 1000), ops(keep(999), gone(1)), strings.Repeat("😀", 999), api.OK},
		{strings.Repeat("😀", 1001), ops(keep(1000)), "", api.ErrDeltaLength},
		{strings.Repeat("😀", 1001), ops(keep(1000), keep(1)), "", api.ErrDeltaLength},
		{strings.Repeat("😀", 1001), ops(keep(1000), keep(0)), "", api.ErrDeltaForm},
	} {
		if s, e := delta.Apply(c.s, c.d); s != c.want || e != c.e {
			t.Errorf("P9.3: Apply(%.40q, %s): %.40q, %d, want %.40q, %d", c.s, show(c.d), s, e, c.want, c.e)
		}
	}
}

// within tells whether two texts have bytes in common memory.
func within(a string, b string) bool {
	if a == "" || b == "" {
		return false
	}
	x, y := uintptr(unsafe.Pointer(unsafe.StringData(a))), uintptr(unsafe.Pointer(unsafe.StringData(b)))
	return x < y+uintptr(len(b)) && y < x+uintptr(len(a))
}

func TestNewMemory(t *testing.T) {
	r := rand.New(rand.NewSource(5))
	for range 200 {
		d := anyDelta(r, 5)
		base, _ := lengthsOf(d)
		s := anyText(r, base)
		form, _ := delta.Encode(d)
		n, _ := delta.Normal(d)
		back, _ := delta.Decode(form)
		for _, o := range d {
			for _, other := range slices.Concat(n, back) {
				if within(o.Text, other.Text) || within(form, other.Text) {
					t.Fatalf("R5: the text %q is kept", other.Text)
				}
			}
			if within(o.Text, form) {
				t.Fatalf("R5: the text %q is kept", o.Text)
			}
		}
		if got, _ := delta.Apply(s, ops(keep(base))); within(got, s) {
			t.Fatal("R5: the text that is applied to is kept")
		}
		wantNormal, wantBack := slices.Clone(n), slices.Clone(back)
		for i := range d {
			d[i] = keep(77)
		}
		if !slices.Equal(n, wantNormal) || !slices.Equal(back, wantBack) {
			t.Fatal("R5: the list is kept")
		}
		for i := range n[:cap(n)] {
			n[:cap(n)][i] = gone(77)
		}
		if again, _ := delta.Decode(form); !slices.Equal(again, wantBack) || slices.Contains(d, gone(77)) {
			t.Fatal("R5: the lists share memory")
		}
	}
	whole := strings.Repeat("é", 3)
	if got, _ := delta.Apply("", ops(ins(whole))); within(got, whole) {
		t.Error("R5: the text that is put in is kept")
	}
}
