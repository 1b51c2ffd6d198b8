package wire_test

import (
	"encoding/binary"
	"fmt"
	"math"
	"math/rand"
	"reflect"
	"slices"
	"strings"
	"testing"
	"unsafe"

	"oxbow/api"
	"oxbow/delta"
	"oxbow/wire"
)

func keep(n int) api.Op        { return api.Op{Kind: api.OpKeep, N: n} }
func gone(n int) api.Op        { return api.Op{Kind: api.OpDelete, N: n} }
func ins(s string) api.Op      { return api.Op{Kind: api.OpInsert, Text: s} }
func ops(l ...api.Op) []api.Op { return l }

// show tells what there is in a line, however long it is.
func show(x any) string {
	const most = 300
	s := fmt.Sprintf("%q", x)
	if len(s) > most {
		return fmt.Sprintf("%s.. (%d bytes)", s[:most], len(s))
	}
	return s
}

// same tells whether two messages are the same, a Delta that is nil and an empty one being alike.
func same(a api.Message, b api.Message) bool {
	d, f := a.Delta, b.Delta
	a.Delta, b.Delta = nil, nil
	return reflect.DeepEqual(a, b) && slices.Equal(d, f)
}

// A line is a row of the chapter's table: which fields a Kind has, and between which ends.
type line struct {
	rev   int // the least Rev
	who   int // the greatest Who
	seq   int // the greatest Seq
	delta bool
}

var table = map[int]line{
	1: {rev: 0, who: 0, seq: 100000, delta: true},
	2: {rev: 0, who: 0, seq: 0, delta: false},
	3: {rev: 1, who: 8, seq: 100000, delta: true},
}

// mayBe is the chapter's word.
func mayBe(m api.Message) bool {
	row, ok := table[m.Kind]
	seq := row.seq
	if m.Kind == 3 && m.Who == 0 {
		seq = 0
	}
	ok = ok && 1 <= m.Branch && m.Branch <= 1000000 && 1 <= m.Client && m.Client <= 8
	ok = ok && row.rev <= m.Rev && m.Rev <= 1000000
	ok = ok && 0 <= m.Who && m.Who <= row.who
	ok = ok && min(1, seq) <= m.Seq && m.Seq <= seq
	return ok && delta.Check(m.Delta) == api.OK && (row.delta || len(m.Delta) == 0)
}

// form is the form of a message by the chapter's words, whether it may be or not; the number longer (from 1 on; 0: none) has a group too much.
func form(m api.Message, longer int) string {
	nums := []int{m.Kind, m.Branch, m.Client, m.Rev}
	if m.Kind == 3 {
		nums = append(nums, m.Who)
	}
	d := ""
	if m.Kind == 1 || m.Kind == 3 {
		d, _ = delta.Encode(m.Delta)
		nums = append(nums, m.Seq, len(d))
	}
	var b []byte
	for i, n := range nums {
		b = binary.AppendUvarint(b, uint64(n))
		if i+1 == longer {
			b[len(b)-1] |= 128
			b = append(b, 0)
		}
	}
	return string(b) + d
}

// read is the message of which a text is the form, read by the chapter's words; false: there is none.
func read(s string) (api.Message, bool) {
	var l []int
	num := func() int {
		n, size := binary.Uvarint([]byte(s))
		if size <= 0 || size != len(binary.AppendUvarint(nil, n)) || n > 1<<50 {
			l, s = append(l, -1), ""
			return -1
		}
		l, s = append(l, int(n)), s[size:]
		return int(n)
	}
	m := api.Message{Kind: num(), Branch: num(), Client: num(), Rev: num()}
	row := table[m.Kind]
	if row.who > 0 {
		m.Who = num()
	}
	if row.delta {
		m.Seq = num()
		n := num()
		if n < 0 || n > 20000 || n > len(s) {
			return api.Message{}, false
		}
		d, e := delta.Decode(s[:n])
		if e != api.OK {
			return api.Message{}, false
		}
		m.Delta, s = d, s[n:]
	}
	if s != "" || slices.Contains(l, -1) || !mayBe(m) {
		return api.Message{}, false
	}
	return m, true
}

// holdEncode holds Encode of a message against the chapter's words, and tells whether it may be.
func holdEncode(t *testing.T, m api.Message) bool {
	t.Helper()
	if !mayBe(m) {
		if s, e := wire.Encode(m); s != "" || e != api.ErrWireForm {
			t.Errorf("E1: Encode(%s): %s, %d, want ErrWireForm", show(m), show(s), e)
		}
		return false
	}
	want := form(m, 0)
	s, e := wire.Encode(m)
	if s != want || e != api.OK {
		t.Errorf("E1: Encode(%s): %s, %d, want %s", show(m), show(s), e, show(want))
	}
	if len(s) > api.MaxLetter {
		t.Errorf("E1: Encode(%s) has %d bytes", show(m), len(s))
	}
	if back, e := wire.Decode(want); !same(back, m) || e != api.OK {
		t.Errorf("P16.1: Decode(%s): %s, %d, want %s", show(want), show(back), e, show(m))
	}
	return true
}

// holdDecode holds Decode of a text against the chapter's words, and tells whether it is a form.
func holdDecode(t *testing.T, s string) bool {
	t.Helper()
	want, ok := read(s)
	m, e := wire.Decode(s)
	if !ok {
		if !reflect.DeepEqual(m, api.Message{}) || e != api.ErrWireForm {
			t.Errorf("E2: Decode(%s): %s, %d, want ErrWireForm", show(s), show(m), e)
		}
		return false
	}
	if !same(m, want) || e != api.OK {
		t.Errorf("E2: Decode(%s): %s, %d, want %s", show(s), show(m), e, show(want))
	}
	if again, e := wire.Encode(m); again != s || e != api.OK {
		t.Errorf("P16.1: Encode of Decode(%s): %s, %d", show(s), show(again), e)
	}
	return true
}

func TestExamples(t *testing.T) {
	x := ops(ins("x"))
	for want, m := range map[string]api.Message{
		"\x02\x01\x02\xac\x02":                  {Kind: api.MsgPull, Branch: 1, Client: 2, Rev: 300},
		"\x01\x01\x02\x00\x01\x04\x01\x02\x01x": {Kind: api.MsgEdit, Branch: 1, Client: 2, Seq: 1, Delta: x},
	} {
		if s, e := wire.Encode(m); s != want || e != api.OK {
			t.Errorf("E1: Encode(%s): %q, %d", show(m), s, e)
		}
		if back, e := wire.Decode(want); !same(back, m) || e != api.OK {
			t.Errorf("E2: Decode(%q): %s, %d", want, show(back), e)
		}
	}
	for _, m := range []api.Message{
		{Kind: api.MsgPull, Branch: 1, Client: 2, Rev: 300, Seq: 1},
		{Kind: api.MsgNext, Branch: 1, Client: 2, Who: 1, Seq: 1, Delta: x},
		{Kind: api.MsgNext, Branch: 1, Client: 2, Delta: x},
		{Kind: 4, Branch: 1, Client: 2, Rev: 1},
		{Kind: api.MsgPull, Branch: 1, Client: 9},
	} {
		if s, e := wire.Encode(m); s != "" || e != api.ErrWireForm {
			t.Errorf("E1: Encode(%s): %q, %d", show(m), s, e)
		}
	}
	for _, s := range []string{"\x02\x01\x02\xac\x02\x00", "\x02\x01\x02\xac", "\x02\x81\x00\x02\x01", ""} {
		if m, e := wire.Decode(s); !reflect.DeepEqual(m, api.Message{}) || e != api.ErrWireForm {
			t.Errorf("E2: Decode(%q): %s, %d", s, show(m), e)
		}
	}
}

func TestFormsByteByByte(t *testing.T) {
	for want, m := range map[string]api.Message{
		"\x01\xc0\x84\x3d\x08\xc0\x84\x3d\xa0\x8d\x06\x01\x00": {Kind: 1, Branch: 1000000, Client: 8, Rev: 1000000, Seq: 100000},
		"\x01\x05\x01\x80\x01\x7f\x08\x03\x01\x01\x03\x02\x02\x01y": {Kind: 1, Branch: 5, Client: 1, Rev: 128, Seq: 127,
			Delta: ops(keep(1), gone(2), ins("y"))},
		"\x02\x01\x01\x00":                         {Kind: 2, Branch: 1, Client: 1},
		"\x02\xc0\x84\x3d\x08\xc0\x84\x3d":         {Kind: 2, Branch: 1000000, Client: 8, Rev: 1000000},
		"\x03\x01\x02\x01\x00\x00\x01\x00":         {Kind: 3, Branch: 1, Client: 2, Rev: 1},
		"\x03\x07\x06\x05\x04\x03\x01\x00":         {Kind: 3, Branch: 7, Client: 6, Rev: 5, Who: 4, Seq: 3},
		"\x03\x01\x02\x01\x08\xa0\x8d\x06\x01\x00": {Kind: 3, Branch: 1, Client: 2, Rev: 1, Who: 8, Seq: 100000},
		"\x03\x01\x02\x01\x00\x00\x05\x01\x02\x02é": {Kind: 3, Branch: 1, Client: 2, Rev: 1,
			Delta: ops(ins("é"))},
	} {
		if s, e := wire.Encode(m); s != want || e != api.OK {
			t.Errorf("E1: Encode(%s): %q, %d, want %q", show(m), s, e, want)
		}
		if back, e := wire.Decode(want); !same(back, m) || e != api.OK {
			t.Errorf("E2: Decode(%q): %s, %d, want %s", want, show(back), e, show(m))
		}
	}
}

// everyMessage goes through all messages with these numbers and deltas.
func everyMessage(kinds []int, branches []int, clients []int, revs []int, whos []int, seqs []int, deltas [][]api.Op, see func(m api.Message)) {
	for _, kind := range kinds {
		for _, branch := range branches {
			for _, client := range clients {
				for _, rev := range revs {
					for _, who := range whos {
						for _, seq := range seqs {
							for _, d := range deltas {
								see(api.Message{Kind: kind, Branch: branch, Client: client, Rev: rev, Who: who, Seq: seq, Delta: d})
							}
						}
					}
				}
			}
		}
	}
}

// TestEveryEdge: all fields at their ends and beyond them, each with each.
func TestEveryEdge(t *testing.T) {
	may, all := 0, 0
	everyMessage(
		[]int{-1, 0, 1, 2, 3, 4},
		[]int{-1, 0, 1, 1000000, 1000001},
		[]int{-1, 0, 1, 8, 9},
		[]int{-1, 0, 1, 1000000, 1000001},
		[]int{-1, 0, 1, 8, 9},
		[]int{-1, 0, 1, 100000, 100001},
		[][]api.Op{nil, {}, ops(ins("x")), ops(keep(0))},
		func(m api.Message) {
			if all++; !t.Failed() && holdEncode(t, m) {
				may++
			}
		})
	// Of each Kind: 2 Branches, 2 Clients; the Revs; Who with Seq; the deltas.
	if want := 4 * (3*2*3 + 3*1*2 + 2*(1+2*2)*3); may != want || all != 6*5*5*5*5*5*4 {
		t.Errorf("E1: %d of %d may be, want %d", may, all, want)
	}
}

// TestFarBeyond: numbers that would be right in fewer bits, or that have no form.
func TestFarBeyond(t *testing.T) {
	far := []int{math.MinInt, math.MinInt + 1, -1 << 32, -1<<32 + 1, -256, -2, 1 << 8, 1<<8 + 1, 1 << 16, 1<<16 + 1, 1 << 31, 1 << 32, 1<<32 + 1, 1 << 50, 1<<50 + 1, math.MaxInt}
	for kind := 1; kind <= 3; kind++ {
		m := api.Message{Kind: kind, Branch: 1, Client: 1, Rev: 1}
		if kind != 2 {
			m.Seq, m.Delta = 1, ops(ins("x"))
		}
		if kind == 3 {
			m.Who = 1
		}
		if !holdEncode(t, m) {
			t.Errorf("E1: %s may not be", show(m))
		}
		for _, n := range far {
			for _, field := range []*int{&m.Kind, &m.Branch, &m.Client, &m.Rev, &m.Who, &m.Seq} {
				was := *field
				*field = n
				holdEncode(t, m)
				*field = was
			}
		}
	}
}

// TestFieldsThatAreNotNamed: each field that a Kind does not have, and that is not 0.
func TestFieldsThatAreNotNamed(t *testing.T) {
	x := ops(ins("x"))
	for _, n := range []int{-1, 1, 2, 8, 100000, math.MinInt, math.MaxInt} {
		for _, m := range []api.Message{
			{Kind: 1, Branch: 1, Client: 1, Seq: 1, Delta: x, Who: n},
			{Kind: 1, Branch: 1, Client: 1, Seq: 1, Who: n},
			{Kind: 2, Branch: 1, Client: 1, Who: n},
			{Kind: 2, Branch: 1, Client: 1, Seq: n},
			{Kind: 2, Branch: 1, Client: 1, Rev: 1, Who: n, Seq: n},
			{Kind: 3, Branch: 1, Client: 1, Rev: 1, Seq: n, Delta: x},
		} {
			if s, e := wire.Encode(m); s != "" || e != api.ErrWireForm {
				t.Errorf("E1: Encode(%s): %q, %d", show(m), s, e)
			}
		}
	}
	for _, d := range [][]api.Op{x, ops(keep(1)), ops(gone(1)), ops(keep(0)), ops(api.Op{}), ops(ins("")), slices.Repeat(ops(keep(1)), 3001)} {
		m := api.Message{Kind: 2, Branch: 1, Client: 1, Rev: 1, Delta: d}
		if s, e := wire.Encode(m); s != "" || e != api.ErrWireForm {
			t.Errorf("E1: Encode(%s): %q, %d", show(m), s, e)
		}
	}
}

func TestDeltas(t *testing.T) {
	right := [][]api.Op{
		nil, {}, ops(ins("x")), ops(keep(1), ins("é"), gone(1), keep(1)),
		ops(gone(1), ins("a"), ins("b"), gone(1), keep(1), keep(1)), // not in normal form
		ops(keep(1000)), ops(gone(1000)), ops(ins(strings.Repeat("😀", 1000))),
		slices.Repeat(ops(gone(1), ins("\U0010ffff")), 1000), // the longest form
		slices.Repeat(ops(keep(1)), 1000),
	}
	wrong := [][]api.Op{
		ops(keep(0)), ops(keep(1001)), ops(keep(-1)), ops(ins("")), ops(ins("\xff")), ops(api.Op{}), ops(api.Op{Kind: 4, N: 1}),
		ops(api.Op{Kind: api.OpKeep, N: 1, Text: "a"}), ops(keep(1000), ins("x")), ops(ins(strings.Repeat("a", 1001))),
		slices.Repeat(ops(keep(1)), 1001), slices.Repeat(ops(keep(1)), 3000), slices.Repeat(ops(keep(1)), 3001), ops(ins("x"), keep(0)),
	}
	for _, m := range []api.Message{{Kind: 1, Branch: 1, Client: 1, Seq: 1}, {Kind: 3, Branch: 1, Client: 1, Rev: 1}, {Kind: 3, Branch: 1, Client: 1, Rev: 1, Who: 8, Seq: 100000}} {
		for _, m.Delta = range right {
			if !holdEncode(t, m) {
				t.Errorf("E1: %s may not be", show(m))
			}
		}
		for _, m.Delta = range wrong {
			if holdEncode(t, m) {
				t.Errorf("E1: %s may be", show(m))
			}
		}
	}
}

// TestWrongFormsOfRightShape: texts that would be the form of a message, if it might be.
func TestWrongFormsOfRightShape(t *testing.T) {
	right := 0
	everyMessage(
		[]int{0, 1, 2, 3, 4, 5, 127, 128, 257},
		[]int{0, 1, 1000000, 1000001, 1 << 32},
		[]int{0, 1, 8, 9, 257},
		[]int{0, 1, 1000000, 1000001, 1 << 50},
		[]int{0, 1, 8, 9, 264},
		[]int{0, 1, 100000, 100001, 1 << 50},
		[][]api.Op{nil, ops(gone(1), ins("x"))},
		func(m api.Message) {
			if !t.Failed() && holdDecode(t, form(m, 0)) {
				right++
			}
		})
	if right == 0 {
		t.Errorf("E2: none is a form")
	}
}

// samples are messages that may be, of all kinds.
func samples() []api.Message {
	return []api.Message{
		{Kind: 1, Branch: 1, Client: 2, Seq: 1, Delta: ops(ins("x"))},
		{Kind: 1, Branch: 300, Client: 8, Rev: 128, Seq: 5000, Delta: ops(keep(200), ins("é€"), gone(3))},
		{Kind: 1, Branch: 1, Client: 1, Seq: 1},
		{Kind: 2, Branch: 1, Client: 2, Rev: 300},
		{Kind: 2, Branch: 1000000, Client: 8},
		{Kind: 3, Branch: 1, Client: 2, Rev: 5, Delta: ops(ins("x"), keep(1), keep(1))},
		{Kind: 3, Branch: 128, Client: 7, Rev: 1000000, Who: 8, Seq: 100000, Delta: ops(gone(1000), ins("ab"))},
		{Kind: 3, Branch: 1, Client: 1, Rev: 1},
	}
}

// TestCutAndLonger: texts that end sooner, that go on, that begin later.
func TestCutAndLonger(t *testing.T) {
	for _, m := range samples() {
		s := form(m, 0)
		if !holdDecode(t, s) {
			t.Errorf("E2: %q is no form", s)
		}
		for i := range len(s) {
			if holdDecode(t, s[:i]) {
				t.Errorf("P16.2: %q, the beginning of %q, is a form", s[:i], s)
			}
			holdDecode(t, s[i+1:])
		}
		for c := range 256 {
			if more := s + string([]byte{byte(c)}); holdDecode(t, more) {
				t.Errorf("P16.2: %q, that goes on, is a form", more)
			}
		}
		for _, other := range samples() {
			if more := s + form(other, 0); holdDecode(t, more) {
				t.Errorf("P16.2: %q, two forms, is a form", more)
			}
		}
		if holdDecode(t, s+strings.Repeat("\x00", 30000)) {
			t.Errorf("P16.2: %q with many bytes behind it is a form", s)
		}
	}
}

// TestBentForms: each byte another one, gone, or one more.
func TestBentForms(t *testing.T) {
	for _, m := range samples() {
		s := form(m, 0)
		for i := range len(s) {
			holdDecode(t, s[:i]+s[i+1:])
			for c := range 256 {
				b := string([]byte{byte(c)})
				holdDecode(t, s[:i]+b+s[i:])
				holdDecode(t, s[:i]+b+s[i+1:])
			}
			if t.Failed() {
				return
			}
		}
	}
}

func TestLongerNumbers(t *testing.T) {
	for _, m := range samples() {
		right := form(m, 0)
		bent := 0
		for i := 1; form(m, i) != right; i++ {
			if s := form(m, i); holdDecode(t, s) {
				t.Errorf("E2: %q, with a longer number, is a form", s)
			}
			bent++
		}
		if bent < 4 {
			t.Errorf("only %d numbers of %s were bent", bent, show(m))
		}
	}
	// Longer numbers inside the delta's form.
	for _, s := range []string{"\x01\x01\x02\x00\x01\x05\x81\x00\x02\x01x", "\x01\x01\x02\x00\x01\x05\x01\x82\x00\x01x", "\x01\x01\x02\x00\x01\x05\x01\x02\x81\x00x", "\x01\x01\x02\x00\x01\x02\x80\x00"} {
		if holdDecode(t, s) {
			t.Errorf("E2: %q is a form", s)
		}
	}
}

// TestEveryShortText: all texts of a few bytes; of those that begin with a form none but that one is a form.
func TestEveryShortText(t *testing.T) {
	of := []byte{0, 1, 2, 3, 'x', 128, 129}
	forms := 0
	var deeper func(s string, left int, behind bool)
	deeper = func(s string, left int, behind bool) {
		if t.Failed() {
			return
		}
		if holdDecode(t, s) {
			if forms++; behind {
				t.Errorf("P16.2: %q begins with another form", s)
			}
			behind = true
		}
		if left == 0 {
			return
		}
		for _, c := range of {
			deeper(s+string([]byte{c}), left-1, behind)
		}
	}
	deeper("", 7, false)
	// Longer ones only behind beginnings that lead somewhere.
	for _, s := range []string{"\x01\x01\x01\x00\x01", "\x03\x02\x01\x01\x00\x00", "\x03\x02\x01\x01\x01\x02"} {
		deeper(s, 6, false)
	}
	if forms < 100 {
		t.Errorf("only %d forms were met", forms)
	}
}

func someDelta(r *rand.Rand) []api.Op {
	of := ops(keep(1), keep(200), gone(1), gone(130), ins("a"), ins("é€😀"), ins(strings.Repeat("b", 130)))
	var d []api.Op
	for range r.Intn(5) {
		d = append(d, of[r.Intn(len(of))])
	}
	return d
}

func someMessage(r *rand.Rand) api.Message {
	num := func(most int) int { return 1 + r.Intn(1+r.Intn(most)) }
	m := api.Message{Kind: 1 + r.Intn(3), Branch: num(1000000), Client: num(8), Rev: num(1000000)}
	if m.Kind != 2 {
		m.Delta, m.Seq = someDelta(r), num(100000)
	}
	if m.Kind == 3 {
		if m.Who = r.Intn(9); m.Who == 0 {
			m.Seq = 0
		}
	}
	return m
}

// TestRandomMessages: back, and no form another one's beginning.
func TestRandomMessages(t *testing.T) {
	r := rand.New(rand.NewSource(16))
	var forms []string
	for range 20000 {
		m := someMessage(r)
		if !holdEncode(t, m) || t.Failed() {
			t.Fatalf("E1: %s", show(m))
		}
		s := form(m, 0)
		forms = append(forms, s)
		b := []byte(s)
		for range 1 + r.Intn(3) {
			b[r.Intn(len(b))] = byte(r.Intn(256))
		}
		holdDecode(t, string(b))
	}
	slices.Sort(forms)
	forms = slices.Compact(forms)
	// Sorted, a text's beginnings stand ahead of it, with nothing between that does not begin so, too.
	for i := range len(forms) - 1 {
		if strings.HasPrefix(forms[i+1], forms[i]) {
			t.Errorf("P16.2: %q begins with %q", forms[i+1], forms[i])
		}
	}
}

// TestThrough: a delta that was written and read does the same to a text.
func TestThrough(t *testing.T) {
	r := rand.New(rand.NewSource(17))
	done := 0
	for range 3000 {
		m := someMessage(r)
		n, e := delta.Base(m.Delta)
		if e != api.OK {
			t.Fatalf("%s: %d", show(m), e)
		}
		s := strings.Repeat("é", n)
		want, _ := delta.Apply(s, m.Delta)
		form, _ := wire.Encode(m)
		back, _ := wire.Decode(form)
		if got, e := delta.Apply(s, back.Delta); got != want || e != api.OK {
			t.Fatalf("P16.3: behind %s: %s, %d, want %s", show(m), show(got), e, show(want))
		}
		if len(m.Delta) > 0 {
			done++
		}
	}
	if done < 1000 {
		t.Errorf("only %d deltas", done)
	}
}

// overlap tells whether two texts share memory. Texts of one byte may be the runtime's own.
func overlap(a string, b string) bool {
	if len(a) < 2 || len(b) < 2 {
		return false
	}
	x, y := uintptr(unsafe.Pointer(unsafe.StringData(a))), uintptr(unsafe.Pointer(unsafe.StringData(b)))
	return x < y+uintptr(len(b)) && y < x+uintptr(len(a))
}

func TestNewMemory(t *testing.T) {
	d := make([]api.Op, 0, 9)
	d = append(d, ins("abc"), keep(2), ins("def"))
	m := api.Message{Kind: 1, Branch: 1, Client: 2, Seq: 3, Delta: d}
	s, _ := wire.Encode(m)
	if !slices.Equal(d, ops(ins("abc"), keep(2), ins("def"))) || slices.ContainsFunc(d[3:9], func(o api.Op) bool { return o != api.Op{} }) {
		t.Errorf("R5: Encode changed the Delta")
	}
	first, _ := wire.Decode(s)
	second, _ := wire.Decode(s)
	for i, o := range first.Delta {
		if overlap(o.Text, s) || overlap(o.Text, d[i].Text) || overlap(o.Text, second.Delta[i].Text) {
			t.Errorf("R5: %q is a piece of what was handed in", o.Text)
		}
	}
	spare := first.Delta[:cap(first.Delta)]
	for i := range spare {
		spare[i] = api.Op{Kind: 9}
	}
	if !same(second, m) {
		t.Errorf("R5: the Delta is shared: %s", show(second))
	}
	if again, e := wire.Decode(s); !same(again, m) || e != api.OK {
		t.Errorf("R6: Decode again: %s, %d", show(again), e)
	}
}
