package net_test

import (
	"fmt"
	"math"
	"math/rand"
	"reflect"
	"slices"
	"strings"
	"testing"
	"unsafe"

	"oxbow/api"
	"oxbow/net"
	"oxbow/wire"
)

// noNumbers are numbers that no letter of a short net has.
var noNumbers = []int{-1, -2, math.MinInt, math.MaxInt, 3000, 1 << 32}

func letter(to int, text string) api.Letter { return api.Letter{To: to, Text: text} }

func long(s string, n int) string { return strings.Repeat(s, n) }

func newNet(t *testing.T, room int) *net.Net {
	t.Helper()
	n, e := net.New(room)
	if n == nil || e != api.OK {
		t.Fatalf("N1: New(%d): %d", room, e)
	}
	return n
}

// filled is a net that letters were sent to.
func filled(t *testing.T, room int, l ...api.Letter) *net.Net {
	t.Helper()
	n := newNet(t, room)
	for _, x := range l {
		want(t, "N2: Send", n.Send(x), api.OK)
	}
	return n
}

func want(t *testing.T, what string, got api.Errno, e api.Errno) {
	t.Helper()
	if got != e {
		t.Errorf("%s: %d, want %d", what, got, e)
	}
}

// short tells of letters in a line, however long they are.
func short(l []api.Letter) string {
	const most = 20
	var b strings.Builder
	for i, x := range l {
		if i == most {
			b.WriteString(" ..")
			break
		}
		fmt.Fprintf(&b, " to %d: %.20q", x.To, x.Text)
	}
	return fmt.Sprintf("%d letters:%s", len(l), b.String())
}

// wantAll: just these letters are there.
func wantAll(t *testing.T, what string, n *net.Net, l ...api.Letter) {
	t.Helper()
	if got := n.All(); !slices.Equal(got, l) {
		t.Errorf("%s: %s, want %s", what, short(got), short(l))
	}
	if n.Len() != len(l) {
		t.Errorf("%s: Len %d, want %d", what, n.Len(), len(l))
	}
}

func wantTake(t *testing.T, what string, n *net.Net, i int, l api.Letter) {
	t.Helper()
	if got, e := n.Take(i); got != l || e != api.OK {
		t.Errorf("%s: Take(%d): to %d, %.20q, %d, want to %d, %.20q", what, i, got.To, got.Text, e, l.To, l.Text)
	}
}

func wantNone(t *testing.T, what string, n *net.Net, i int) {
	t.Helper()
	if got, e := n.Take(i); got != (api.Letter{}) || e != api.ErrNetNone {
		t.Errorf("%s: Take(%d): to %d, %.20q, %d", what, i, got.To, got.Text, e)
	}
	want(t, fmt.Sprint(what, ": Double of ", i), n.Double(i), api.ErrNetNone)
}

func TestExample(t *testing.T) {
	a, b, c := letter(0, "a"), letter(3, "b"), letter(0, "c")
	n := newNet(t, 2)
	for _, x := range []struct {
		l api.Letter
		e api.Errno
	}{{a, api.OK}, {b, api.OK}, {c, api.ErrNetFull}} {
		want(t, "N2: Send", n.Send(x.l), x.e)
	}
	wantTake(t, "N3", n, 0, a)
	want(t, "N4: Double", n.Double(0), api.OK)
	wantAll(t, "N5", n, b, b)
	wantNone(t, "N3", n, 2)
}

func TestNew(t *testing.T) {
	for _, room := range []int{-1, 0, 3001, math.MinInt, math.MaxInt, 1<<32 + 5} {
		if n, e := net.New(room); n != nil || e != api.ErrArg {
			t.Errorf("N1: New(%d): %d", room, e)
		}
	}
	for _, room := range []int{1, 2, 2999, 3000} {
		n := newNet(t, room)
		wantAll(t, "N1", n)
		var l []api.Letter
		for i := range room {
			x := letter(i%9, fmt.Sprint(i))
			l = append(l, x)
			want(t, "N2: Send", n.Send(x), api.OK)
		}
		want(t, fmt.Sprint("N2: one more than ", room), n.Send(letter(0, "more")), api.ErrNetFull)
		want(t, fmt.Sprint("N4: one more than ", room), n.Double(0), api.ErrNetFull)
		wantAll(t, "N2", n, l...)
	}
}

func TestSend(t *testing.T) {
	const most = 30000
	for _, room := range []int{1, 3} {
		full := room == 1
		for _, to := range []int{-1, 0, 1, 8, 9, math.MinInt, math.MaxInt, 1 << 32} {
			for _, size := range []int{0, 1, most, most + 1, 2 * most} {
				x := letter(to, long("x", size))
				n := filled(t, room, letter(5, "first"))
				e := api.OK
				switch {
				case to < 0 || to > 8:
					e = api.ErrArg
				case size > most:
					e = api.ErrLong
				case full:
					e = api.ErrNetFull
				}
				what := fmt.Sprintf("N2: Send to %d of %d bytes, full %v", to, size, full)
				want(t, what, n.Send(x), e)
				if e != api.OK {
					wantAll(t, what, n, letter(5, "first"))
					continue
				}
				wantAll(t, what, n, letter(5, "first"), x)
				wantTake(t, what, n, 1, x)
			}
		}
	}
	// A Text is bytes, and need not be valid.
	odd := []api.Letter{letter(1, "\xff\xfe"), letter(1, "\x00"), letter(1, ""), letter(1, "\x00\x00")}
	n := filled(t, 4, odd...)
	wantAll(t, "N2", n, odd...)
}

func TestTake(t *testing.T) {
	a, b, c := letter(1, "a"), letter(2, "b"), letter(3, "c")
	for i, rest := range [][]api.Letter{{b, c}, {a, c}, {a, b}} {
		n := filled(t, 3, a, b, c)
		wantTake(t, "N3", n, i, []api.Letter{a, b, c}[i])
		wantAll(t, "N3", n, rest...)
		wantNone(t, "N3: one behind the last", n, 2)
		// There is room again, behind the others.
		want(t, "N2: Send", n.Send(a), api.OK)
		wantAll(t, "N3", n, append(rest, a)...)
		want(t, "N2: Send", n.Send(a), api.ErrNetFull)
	}
	n := filled(t, 5, a, b, c)
	for _, i := range append(noNumbers, 3, 4, 5) {
		wantNone(t, "N3", n, i)
		wantAll(t, "N3", n, a, b, c)
	}
	for _, x := range []api.Letter{c, b, a} {
		wantTake(t, "N3: the last one", n, n.Len()-1, x)
	}
	wantAll(t, "N3", n)
	for _, i := range append(noNumbers, 0, 1) {
		wantNone(t, "N3: of an empty net", n, i)
	}
	for _, i := range append(noNumbers, 0, 1) {
		wantNone(t, "N3: of a new net", newNet(t, 1), i)
	}
}

func TestDouble(t *testing.T) {
	a, b, c := letter(1, "a"), letter(2, "b"), letter(3, "c")
	for i, x := range []api.Letter{a, b, c} {
		n := filled(t, 4, a, b, c)
		want(t, "N4: one place left", n.Double(i), api.OK)
		wantAll(t, "N4", n, a, b, c, x)
		want(t, "N4: none left", n.Double(i), api.ErrNetFull)
		for _, i := range append(noNumbers, 4, 5) {
			want(t, "N4: no letter, and no room", n.Double(i), api.ErrNetNone)
		}
		wantAll(t, "N4", n, a, b, c, x)
		wantTake(t, "N3", n, i, x)
		wantTake(t, "N3: its double", n, 2, x)
	}
	n := filled(t, 9, a, b)
	for range 7 {
		want(t, "N4: the last one", n.Double(n.Len()-1), api.OK)
	}
	wantAll(t, "N4", n, a, b, b, b, b, b, b, b, b)
	n = filled(t, 1, a)
	want(t, "N4: room of one", n.Double(0), api.ErrNetFull)
	wantTake(t, "N3", n, 0, a)
	want(t, "N4: none there", n.Double(0), api.ErrNetNone)
}

// TestEqualLetters: letters that are alike are each one for itself; those that differ in one part are not alike.
func TestEqualLetters(t *testing.T) {
	a, b := letter(1, "same"), letter(2, "same")
	n := filled(t, 6, a, b, a, b, a)
	wantTake(t, "P17.1", n, 2, a)
	wantAll(t, "P17.1", n, a, b, b, a)
	wantTake(t, "P17.1", n, 0, a)
	wantAll(t, "P17.1", n, b, b, a)
	want(t, "N4: Double", n.Double(2), api.OK)
	wantTake(t, "P17.1", n, 2, a)
	wantTake(t, "P17.1", n, 2, a)
	wantAll(t, "P17.1", n, b, b)
	want(t, "N2: Send", n.Send(a), api.OK)
	wantAll(t, "P17.1", n, b, b, a)
	big := long("z", api.MaxLetter)
	n = newNet(t, api.MaxNet)
	for range api.MaxNet / 2 {
		want(t, "N2: Send", n.Send(letter(8, long("z", api.MaxLetter))), api.OK)
		want(t, "N4: Double", n.Double(0), api.OK)
	}
	for n.Len() > 0 {
		wantTake(t, "P17.1", n, n.Len()/2, letter(8, big))
	}
}

// step is a call of a net: Send of a letter, or Take or Double of a number.
type step struct {
	call string
	l    api.Letter
	i    int
}

// entry is a letter of the model; it is pure, if it was neither doubled nor is a double, and then has the number of its Send.
type entry struct {
	l    api.Letter
	sent int
	pure bool
}

// model is a net by the chapter's words, with what was ever sent, doubled and taken.
type model struct {
	room  int
	row   []entry
	sends int
	tally map[api.Letter]int
}

func newModel(room int) *model { return &model{room: room, tally: map[api.Letter]int{}} }

func (m *model) letters() []api.Letter {
	var l []api.Letter
	for _, x := range m.row {
		l = append(l, x.l)
	}
	return l
}

func (m *model) do(x step) (api.Letter, api.Errno) {
	there := x.i >= 0 && x.i < len(m.row)
	full := len(m.row) >= m.room
	switch {
	case x.call != "Send" && !there:
		return api.Letter{}, api.ErrNetNone
	case x.call != "Take" && full:
		return api.Letter{}, api.ErrNetFull
	case x.call == "Send":
		m.row = append(m.row, entry{l: x.l, sent: m.sends, pure: true})
		m.sends++
		m.tally[x.l]++
	case x.call == "Double":
		m.row[x.i].pure = false
		m.row = append(m.row, entry{l: m.row[x.i].l})
		m.tally[m.row[x.i].l]++
	case x.call == "Take":
		l := m.row[x.i].l
		m.row = append(append([]entry{}, m.row[:x.i]...), m.row[x.i+1:]...)
		m.tally[l]--
		return l, api.OK
	}
	return api.Letter{}, api.OK
}

func do(n *net.Net, x step) (api.Letter, api.Errno) {
	switch x.call {
	case "Send":
		return api.Letter{}, n.Send(x.l)
	case "Double":
		return api.Letter{}, n.Double(x.i)
	}
	return n.Take(x.i)
}

// hold does a step on a net and on its model, and holds them against one another, and against P17.1 and P17.2.
func hold(t *testing.T, n *net.Net, m *model, x step) {
	t.Helper()
	wanted, we := m.do(x)
	if got, e := do(n, x); got != wanted || e != we {
		t.Fatalf("%s of %d: %s, %d, want %s, %d", x.call, x.i, short([]api.Letter{got}), e, short([]api.Letter{wanted}), we)
	}
	all := n.All()
	count := map[api.Letter]int{}
	for _, l := range all {
		count[l]++
	}
	for l, k := range m.tally {
		if count[l] != k {
			t.Fatalf("P17.1: %d of %s, want %d", count[l], short([]api.Letter{l}), k)
		}
	}
	if n.Len() != len(m.row) || len(all) != len(m.row) {
		t.Fatalf("N5: Len %d, All %d, want %d", n.Len(), len(all), len(m.row))
	}
	last := -1
	for i, x := range m.row {
		if x.l != all[i] {
			t.Fatalf("P17.2: number %d is %s, want %s", i, short(all[i:i+1]), short([]api.Letter{x.l}))
		}
		if x.pure && x.sent < last {
			t.Fatalf("P17.2: number %d was sent ahead of one that stands ahead", i)
		}
		if x.pure {
			last = x.sent
		}
	}
}

// TestEveryWalk: all rows of six steps out of a few, on nets of one, two and three places.
func TestEveryWalk(t *testing.T) {
	of := []step{
		{call: "Send", l: letter(0, "a")}, {call: "Send", l: letter(1, "a")}, {call: "Send", l: letter(0, "b")},
		{call: "Take", i: 0}, {call: "Take", i: 1}, {call: "Take", i: 2},
		{call: "Double", i: 0}, {call: "Double", i: 1},
	}
	const deep = 6
	walks := 1
	for range deep {
		walks *= len(of)
	}
	for room := 1; room <= 3; room++ {
		for walk := range walks {
			n, m := newNet(t, room), newModel(room)
			k := walk
			for range deep {
				hold(t, n, m, of[k%len(of)])
				k /= len(of)
			}
		}
	}
}

// TestWalks: long rows of steps, with letters of which many are alike.
func TestWalks(t *testing.T) {
	done := map[string]int{}
	for seed := range int64(200) {
		r := rand.New(rand.NewSource(seed))
		room := 1 + r.Intn(1+r.Intn(60))
		n, m := newNet(t, room), newModel(room)
		texts := 1 + r.Intn(12)
		for range 300 {
			x := step{call: []string{"Send", "Send", "Double", "Take", "Take"}[r.Intn(5)], i: r.Intn(len(m.row)+2) - 1}
			if x.call == "Send" {
				x = step{call: "Send", l: letter(r.Intn(9), long(string(rune('a'+r.Intn(texts))), r.Intn(4)))}
			}
			before := len(m.row)
			hold(t, n, m, x)
			if before != len(m.row) {
				done[x.call]++
			}
		}
	}
	for _, call := range []string{"Send", "Double", "Take"} {
		if done[call] < 2000 {
			t.Errorf("only %d of %s went", done[call], call)
		}
	}
}

// longest is a message whose form has as many bytes as may be had of a delta with a text of four bytes each code point.
func longest() api.Message {
	var d []api.Op
	for range 1000 {
		d = append(d, api.Op{Kind: api.OpInsert, Text: "😀"}, api.Op{Kind: api.OpDelete, N: 1})
	}
	return api.Message{Kind: api.MsgNext, Branch: 1000000, Client: 8, Rev: 1000000, Who: 8, Seq: 100000, Delta: d}
}

func someMessages(r *rand.Rand) []api.Message {
	l := []api.Message{longest()}
	for range 30 {
		m := api.Message{Kind: 1 + r.Intn(3), Branch: 1 + r.Intn(300), Client: 1 + r.Intn(8), Rev: 1 + r.Intn(300)}
		if m.Kind != api.MsgPull {
			m.Seq = 1 + r.Intn(200)
			m.Delta = []api.Op{{Kind: api.OpKeep, N: 1 + r.Intn(9)}, {Kind: api.OpInsert, Text: long("é\x00", 1+r.Intn(40))}}
		}
		if m.Kind == api.MsgNext {
			m.Who = 1 + r.Intn(8)
		}
		l = append(l, m)
	}
	return l
}

// TestThrough: messages go through, for whom they were sent, as often as they were sent and doubled.
func TestThrough(t *testing.T) {
	for seed := range int64(40) {
		r := rand.New(rand.NewSource(seed))
		n := newNet(t, 100)
		messages := someMessages(r)
		due := map[api.Letter]int{}
		meant := map[api.Letter]api.Message{}
		for i, m := range messages {
			form, e := wire.Encode(m)
			if e != api.OK {
				t.Fatalf("E1: %d: %d", i, e)
			}
			to := 0
			if m.Kind == api.MsgNext {
				to = m.Client
			}
			l := letter(to, form)
			want(t, "P17.3: Send", n.Send(l), api.OK)
			due[l]++
			meant[l] = m
		}
		for range 50 {
			i := r.Intn(n.Len())
			due[n.All()[i]]++
			want(t, "P17.3: Double", n.Double(i), api.OK)
		}
		for n.Len() > 0 {
			l, e := n.Take(r.Intn(n.Len()))
			m, is := meant[l]
			back, f := wire.Decode(l.Text)
			if e != api.OK || f != api.OK || !is || !reflect.DeepEqual(back, m) {
				t.Fatalf("P17.3: %s: %d, %d", short([]api.Letter{l}), e, f)
			}
			due[l]--
		}
		for l, k := range due {
			if k != 0 {
				t.Errorf("P17.1: %d of %s too few", k, short([]api.Letter{l}))
			}
		}
	}
}

// overlap tells whether two texts share memory. Texts of one byte may be the runtime's own.
func overlap(a string, b string) bool {
	if len(a) < 2 || len(b) < 2 {
		return false
	}
	x, y := uintptr(unsafe.Pointer(unsafe.StringData(a))), uintptr(unsafe.Pointer(unsafe.StringData(b)))
	return x < y+uintptr(len(b)) && y < x+uintptr(len(a))
}

// TestNewMemory: what is answered is nobody else's, neither the caller's nor the net's.
func TestNewMemory(t *testing.T) {
	a, b := letter(1, strings.Clone("first text")), letter(2, strings.Clone("second text"))
	n := filled(t, 5, a, b, a)
	want(t, "N4: Double", n.Double(0), api.OK)
	first, second := n.All(), n.All()
	spare := first[:cap(first)]
	for i := range spare {
		spare[i] = letter(7, "written into")
	}
	_ = append(first[:0], letter(6, "put in"))
	wantAll(t, "R5: All written into", n, a, b, a, a)
	if !slices.Equal(second, []api.Letter{a, b, a, a}) {
		t.Errorf("R5: two answers share memory: %s", short(second))
	}
	texts := []string{a.Text, b.Text}
	for _, x := range slices.Concat(second, n.All()) {
		texts = append(texts, x.Text)
	}
	for n.Len() > 0 {
		x, _ := n.Take(0)
		texts = append(texts, x.Text)
	}
	for i, x := range texts {
		for _, y := range texts[:i] {
			if overlap(x, y) {
				t.Errorf("R5: %q is kept, or answered twice", x)
			}
		}
	}
}

// TestNothingIsKept: a letter that is a piece of bytes which change is as it was when it was sent.
func TestNothingIsKept(t *testing.T) {
	bytes := []byte("as it was sent")
	text := unsafe.String(&bytes[0], len(bytes))
	n := newNet(t, 3)
	for range 2 {
		want(t, "N2: Send", n.Send(letter(1, text)), api.OK)
	}
	copy(bytes, "something else")
	wantAll(t, "R5: changed behind Send", n, letter(1, "as it was sent"), letter(1, "as it was sent"))
	want(t, "N4: Double", n.Double(1), api.OK)
	for range 3 {
		wantTake(t, "R5: changed behind Send", n, 0, letter(1, "as it was sent"))
	}
}

// TestTwoNets: nets know nothing of one another.
func TestTwoNets(t *testing.T) {
	a, b := letter(1, "a"), letter(2, "b")
	x, y := filled(t, 2, a, b), filled(t, 3, b)
	wantTake(t, "N3", x, 0, a)
	want(t, "N4: Double", y.Double(0), api.OK)
	wantAll(t, "R6", x, b)
	wantAll(t, "R6", y, b, b)
}

// TestRefused: a call that answers an error changes nothing.
func TestRefused(t *testing.T) {
	a, b := letter(1, "a"), letter(2, "b")
	n := filled(t, 2, a, b)
	for range 3 {
		n.Send(letter(9, "a"))
		n.Send(letter(-1, "a"))
		n.Send(letter(1, long("x", 30001)))
		n.Send(a)
		n.Double(1)
		n.Double(2)
		n.Take(2)
		n.Take(-1)
		wantAll(t, "R3", n, a, b)
	}
	wantTake(t, "N3", n, 0, a)
	want(t, "N2: Send", n.Send(b), api.OK)
	wantAll(t, "R3", n, b, b)
}
