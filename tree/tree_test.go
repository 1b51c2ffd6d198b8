package tree_test

import (
	"fmt"
	"maps"
	"math"
	"math/rand"
	"slices"
	"strings"
	"testing"

	"oxbow/api"
	"oxbow/dev"
	"oxbow/pages"
	"oxbow/tree"
)

// mostSteps is more than any Write of these tests writes and syncs.
const mostSteps = 3000

func newDev(t *testing.T, sectors int) *dev.Dev {
	t.Helper()
	d, e := dev.New(sectors)
	if d == nil || e != api.OK {
		t.Fatalf("D1: New(%d): %d", sectors, e)
	}
	return d
}

func newTree(t *testing.T, sectors int) (*dev.Dev, *tree.Tree) {
	t.Helper()
	d := newDev(t, sectors)
	x, e := tree.New(d)
	if x == nil || e != api.OK {
		t.Fatalf("B1: New: %d", e)
	}
	return d, x
}

func open(t *testing.T, d *dev.Dev) *tree.Tree {
	t.Helper()
	x, e := tree.Open(d)
	if x == nil || e != api.OK {
		t.Fatalf("B1: Open: %d", e)
	}
	return x
}

func want(t *testing.T, what string, got, e api.Errno) {
	t.Helper()
	if got != e {
		t.Fatalf("%s: %d, want %d", what, got, e)
	}
}

// model is the pairs that a tree is to have.
type model map[string]string

func (m model) pairs() []api.Pair {
	var l []api.Pair
	for _, key := range slices.Sorted(maps.Keys(m)) {
		l = append(l, api.Pair{Key: key, Value: m[key]})
	}
	return l
}

// behind is the model behind a Write.
func (m model) behind(sets []api.Pair, dels []string) model {
	m = maps.Clone(m)
	for _, key := range dels {
		delete(m, key)
	}
	for _, x := range sets {
		m[x.Key] = x.Value
	}
	return m
}

// bytes is what P6.2 counts.
func (m model) bytes() int {
	n := 0
	for key, value := range m {
		n += len(key) + len(value) + 4
	}
	return n
}

// reader is what a tree and its views can tell.
type reader interface {
	Get(key string) (string, bool)
	Scan(from string, most int) []api.Pair
	Len() int
}

// differs tells what of a tree or a view is not as in the model; "": nothing.
func (m model) differs(x reader) string {
	l := m.pairs()
	if x.Len() != len(l) {
		return fmt.Sprintf("Len %d of %d", x.Len(), len(l))
	}
	if got := x.Scan("", math.MaxInt); !slices.Equal(got, l) {
		return fmt.Sprintf("Scan: %d pairs of %d", len(got), len(l))
	}
	for i, y := range l {
		if s, ok := x.Get(y.Key); s != y.Value || !ok {
			return fmt.Sprintf("Get(%q): %q, %v", y.Key, s, ok)
		}
		if i%7 != 0 {
			continue
		}
		for _, key := range []string{y.Key + "\x00", y.Key[:len(y.Key)-1], y.Key + "\xff"} {
			value, is := m[key]
			if s, ok := x.Get(key); s != value || ok != is {
				return fmt.Sprintf("Get(%q): %q, %v", key, s, ok)
			}
			from, _ := slices.BinarySearchFunc(l, key, func(a api.Pair, b string) int { return strings.Compare(a.Key, b) })
			if got := x.Scan(key, 3); !slices.Equal(got, l[from:min(from+3, len(l))]) {
				return fmt.Sprintf("Scan(%q, 3): %q", key, got)
			}
		}
		if got := x.Scan(y.Key, 1); !slices.Equal(got, l[i:i+1]) {
			return fmt.Sprintf("Scan(%q, 1): %q", y.Key, got)
		}
	}
	return ""
}

func (m model) want(t *testing.T, what string, x reader) {
	t.Helper()
	if s := m.differs(x); s != "" {
		t.Fatalf("%s: %s", what, s)
	}
}

// wantNothing: a tree or view answers as if there were no pair.
func wantNothing(t *testing.T, what string, x reader) {
	t.Helper()
	if s, ok := x.Get("b"); s != "" || ok {
		t.Errorf("%s: Get: %q, %v", what, s, ok)
	}
	if l := x.Scan("", 9); len(l) != 0 {
		t.Errorf("%s: Scan: %q", what, l)
	}
	if x.Len() != 0 {
		t.Errorf("%s: Len %d", what, x.Len())
	}
}

// wantLost: Write answers ErrDown, whatever it is given, and all others as if there were no pair and no page.
func wantLost(t *testing.T, what string, d *dev.Dev, x *tree.Tree) {
	t.Helper()
	waiting := d.Waiting()
	wantNothing(t, what, x)
	if x.Free() != 0 || x.View() != nil {
		t.Errorf("%s: Free %d", what, x.Free())
	}
	want(t, what+": Write", x.Write([]api.Pair{{Key: "b", Value: "lost"}}, nil), api.ErrDown)
	want(t, what+": Write", x.Write([]api.Pair{{Key: "", Value: strings.Repeat("x", 121)}}, nil), api.ErrDown)
	want(t, what+": Write", x.Write(nil, []string{""}), api.ErrDown)
	want(t, what+": Write", x.Write(nil, nil), api.ErrDown)
	if !slices.Equal(waiting, d.Waiting()) {
		t.Errorf("%s: a lost tree wrote", what)
	}
}

// write writes to a tree, which must go, and is the model behind.
func write(t *testing.T, x *tree.Tree, m model, sets []api.Pair, dels []string) model {
	t.Helper()
	want(t, "B3: Write", x.Write(sets, dels), api.OK)
	return m.behind(sets, dels)
}

func long(s string, n int) string { return strings.Repeat(s, n) }

func TestNew(t *testing.T) {
	for sectors := api.MinSectors; sectors <= 300; sectors++ {
		d := newDev(t, sectors)
		d.Fuse(1)
		x, e := tree.New(d)
		_, f := pages.New(d)
		if e != f || x == nil != (e != api.OK) || e != api.OK && (e != api.ErrNoSpace || sectors >= 52) {
			t.Errorf("B1: New of %d sectors: %d", sectors, e)
		}
		if !d.Up() || len(d.Waiting()) != 0 {
			t.Errorf("B1: New of %d sectors wrote", sectors)
		}
		if x == nil {
			continue
		}
		wantNothing(t, "B1: New", x)
		if x.Free() < 1 || x.Free() < (sectors-48)/4 {
			t.Errorf("B1: %d sectors: Free %d", sectors, x.Free())
		}
	}
}

// Of several errors the one that is named first is the answer.
func TestBeginErrors(t *testing.T) {
	for _, begin := range []func(*dev.Dev) (*tree.Tree, api.Errno){tree.New, tree.Open} {
		if x, e := begin(nil); x != nil || e != api.ErrArg {
			t.Errorf("B1: nil: %d", e)
		}
		for _, sectors := range []int{8, 31, 100} {
			d := newDev(t, sectors)
			d.Write(3, long("x", 64))
			d.Fuse(0)
			if x, e := begin(d); x != nil || e != api.ErrDown {
				t.Errorf("B1: %d sectors, down: %d", sectors, e)
			}
		}
		for _, sectors := range []int{8, 31} {
			d := newDev(t, sectors)
			d.Write(3, long("x", 64))
			if x, e := begin(d); x != nil || e != api.ErrNoSpace {
				t.Errorf("B1: %d sectors: %d", sectors, e)
			}
		}
	}
	for _, sync := range []int{0, 1} {
		d := newDev(t, 100)
		d.Write(3, long("x", 64))
		for range sync {
			d.Sync()
		}
		if x, e := tree.New(d); x != nil || e != api.ErrTreeForm {
			t.Errorf("B1: not empty: %d", e)
		}
	}
	d := newDev(t, 100)
	x := open(t, d)
	wantNothing(t, "B1: Open of an empty device", x)
	if y, _ := tree.New(newDev(t, 100)); x.Free() != y.Free() || len(d.Waiting()) != 0 {
		t.Errorf("B1: Open of an empty device: Free %d", x.Free())
	}
}

// TestExample1 and those behind it are the chapter's own.
func TestExample1(t *testing.T) {
	d, x := newTree(t, 100)
	m := write(t, x, model{}, []api.Pair{{Key: "a", Value: "1"}, {Key: "b", Value: "2"}, {Key: "c", Value: "3"}}, nil)
	if l := x.Scan("b", 9); !slices.Equal(l, []api.Pair{{Key: "b", Value: "2"}, {Key: "c", Value: "3"}}) {
		t.Errorf("Scan: %q", l)
	}
	m = write(t, x, m, []api.Pair{{Key: "b", Value: "9"}}, []string{"a", "b"})
	if l := x.Scan("", 9); !slices.Equal(l, []api.Pair{{Key: "b", Value: "9"}, {Key: "c", Value: "3"}}) {
		t.Errorf("Scan: %q", l)
	}
	d.Crash("")
	m.want(t, "opened", open(t, d))
}

func TestExample2(t *testing.T) {
	_, x := newTree(t, 100)
	write(t, x, model{}, []api.Pair{{Key: "b", Value: "9"}}, nil)
	v := x.View()
	write(t, x, model{}, nil, []string{"b"})
	if s, ok := v.Get("b"); s != "9" || !ok {
		t.Errorf("the view's: %q, %v", s, ok)
	}
	if s, ok := x.Get("b"); s != "" || ok {
		t.Errorf("the tree's: %q, %v", s, ok)
	}
}

func TestExample3(t *testing.T) {
	_, x := newTree(t, 100)
	want(t, "41 bytes", x.Write([]api.Pair{{Key: long("k", 41)}}, nil), api.ErrArg)
	want(t, "none", x.Write([]api.Pair{{}}, nil), api.ErrArg)
	want(t, "121 bytes", x.Write([]api.Pair{{Key: "k", Value: long("v", 121)}}, nil), api.ErrLong)
}

// standing is a tree of several levels, and its model.
func standing(t *testing.T, sectors int) (*dev.Dev, *tree.Tree, model) {
	t.Helper()
	d, x := newTree(t, sectors)
	m := model{}
	for n := 0; m.bytes() < 8*sectors; n++ {
		m[fmt.Sprintf("k%03d%s", n*37%500, long("-", n%30))] = long(string(rune('a'+n%26)), n*13%121)
	}
	want(t, "B3: Write", x.Write(m.pairs(), nil), api.OK)
	m.want(t, "standing", x)
	return d, x, m
}

func TestWriteRefused(t *testing.T) {
	d, x, m := standing(t, 300)
	free := x.Free()
	good := []api.Pair{{Key: "good", Value: "1"}}
	d.Fuse(1)
	for i, l := range [][]api.Pair{{{Key: ""}}, {{Key: long("k", 41)}}, {{Key: long("k", 9999)}}, {good[0], {Key: ""}}, {{Key: ""}, good[0]}, {{Key: "k", Value: long("v", 121)}, {Key: ""}}} {
		want(t, fmt.Sprintf("B3: sets %d", i), x.Write(l, nil), api.ErrArg)
	}
	for i, l := range [][]string{{""}, {long("k", 41)}, {"k", ""}, {"", "k"}} {
		want(t, fmt.Sprintf("B3: dels %d", i), x.Write(good, l), api.ErrArg)
		want(t, fmt.Sprintf("B3: dels %d", i), x.Write([]api.Pair{{Key: "k", Value: long("v", 121)}}, l), api.ErrArg)
	}
	for i, l := range [][]api.Pair{{{Key: "k", Value: long("v", 121)}}, {{Key: "k", Value: long("v", 9999)}}, {good[0], {Key: "k", Value: long("v", 121)}, good[0]}} {
		want(t, fmt.Sprintf("B3: values %d", i), x.Write(l, []string{"k001"}), api.ErrLong)
	}
	want(t, "B3: too many", x.Write(many(2000), slices.Sorted(maps.Keys(m))), api.ErrNoSpace)
	if !d.Up() || len(d.Waiting()) > 0 || x.Free() != free {
		t.Error("P6.4: something was written")
	}
	m.want(t, "P6.4", x)
	d.Crash("")
	m.want(t, "P6.4", open(t, d))
}

// many are pairs of great values.
func many(n int) []api.Pair {
	var l []api.Pair
	for i := range n {
		l = append(l, api.Pair{Key: fmt.Sprint("m", i), Value: long("v", 120)})
	}
	return l
}

func TestEdgesOfKeysAndValues(t *testing.T) {
	d, x := newTree(t, 300)
	sets := []api.Pair{
		{Key: "\x00", Value: ""}, {Key: "\xff", Value: long("\x00", 120)}, {Key: long("\xff", 40), Value: long("\xff", 120)}, {Key: long("\x00", 40), Value: "\x00"},
		{Key: "ab", Value: "2"}, {Key: "a", Value: "1"}, {Key: "abc", Value: "3"}, {Key: "a\x00", Value: "0"}, {Key: "b", Value: "4"}, {Key: "B", Value: "5"},
		{Key: "é", Value: "é"}, {Key: "\x80", Value: "no code point"},
	}
	m := write(t, x, model{}, sets, nil)
	m.want(t, "B2", x)
	keys := []string{}
	for _, y := range x.Scan("", 99) {
		keys = append(keys, y.Key)
	}
	if !slices.Equal(keys, []string{"\x00", long("\x00", 40), "B", "a", "a\x00", "ab", "abc", "b", "\x80", "é", "\xff", long("\xff", 40)}) {
		t.Errorf("the order of keys: %q", keys)
	}
	for _, key := range []string{"", long("\xff", 41), long("k", 9999), "c", "A"} {
		if s, ok := x.Get(key); s != "" || ok {
			t.Errorf("B2: Get(%q): %q, %v", key, s, ok)
		}
	}
	d.Crash("")
	m.want(t, "P6.1", open(t, d))
}

func TestScan(t *testing.T) {
	_, x, m := standing(t, 1000)
	v := x.View()
	l := m.pairs()
	for _, y := range []reader{x, v} {
		for _, most := range []int{-1, 0, math.MinInt} {
			for _, from := range []string{"", l[0].Key, "z"} {
				if got := y.Scan(from, most); len(got) != 0 {
					t.Errorf("B2: Scan(%q, %d): %q", from, most, got)
				}
			}
		}
		for i := range l {
			for _, most := range []int{1, 2, 5, len(l) - i, len(l), math.MaxInt} {
				end := i + min(most, len(l)-i)
				if got := y.Scan(l[i].Key, most); !slices.Equal(got, l[i:end]) {
					t.Errorf("B2: Scan(%q, %d): %d pairs, want %d", l[i].Key, most, len(got), end-i)
				}
				if got := y.Scan(l[i].Key+"\x00", most); !slices.Equal(got, l[i+1:min(i+1+min(most, len(l)), len(l))]) {
					t.Errorf("B2: Scan behind %q, %d: %d pairs", l[i].Key, most, len(got))
				}
			}
		}
		for _, from := range []string{"z", "l", l[len(l)-1].Key + "\x00", long("\xff", 50)} {
			if got := y.Scan(from, 9); len(got) != 0 {
				t.Errorf("B2: Scan behind all: %q", got)
			}
		}
		if got := y.Scan("", 1); !slices.Equal(got, l[:1]) {
			t.Errorf("B2: Scan of one: %q", got)
		}
		if got := y.Scan("A", 2); !slices.Equal(got, l[:2]) {
			t.Errorf("B2: Scan from ahead of all: %q", got)
		}
	}
	got := x.Scan("", 9)
	for i := range got {
		got[i] = api.Pair{}
	}
	m.want(t, "R5", x)
}

// The sets come behind the dels, one by one.
func TestOrderWithinAWrite(t *testing.T) {
	_, x := newTree(t, 100)
	m := write(t, x, model{}, []api.Pair{{Key: "a", Value: "1"}, {Key: "a", Value: "2"}, {Key: "b", Value: "1"}, {Key: "a", Value: "3"}}, []string{"a", "c", "c"})
	m.want(t, "B3: twice in sets", x)
	m = write(t, x, m, []api.Pair{{Key: "a", Value: "4"}}, []string{"a", "a", "b", "x"})
	m.want(t, "B3: in sets and dels", x)
	m = write(t, x, m, []api.Pair{{Key: "a", Value: ""}}, nil)
	m.want(t, "B3: an empty value", x)
	m = write(t, x, m, nil, []string{"a"})
	m.want(t, "B3: gone", x)
}

// What is handed in is not changed, and not kept.
func TestOwnMemory(t *testing.T) {
	_, x := newTree(t, 100)
	sets, dels := []api.Pair{{Key: "b", Value: "2"}, {Key: "a", Value: "1"}}, []string{"d", "c"}
	m := write(t, x, model{}, sets, dels)
	if !slices.Equal(sets, []api.Pair{{Key: "b", Value: "2"}, {Key: "a", Value: "1"}}) || !slices.Equal(dels, []string{"d", "c"}) {
		t.Errorf("R5: %q, %q", sets, dels)
	}
	clear(sets)
	m.want(t, "R5", x)
}

// A Write that changes nothing needs no room, and no page changes its place.
func TestNothingToWrite(t *testing.T) {
	d, x, m := standing(t, 300)
	v := x.View()
	free := x.Free()
	for range 100 {
		m = write(t, x, m, m.pairs()[3:9], []string{"not there"})
		m = write(t, x, m, nil, nil)
	}
	if x.Free() != free || len(d.Waiting()) != 0 {
		t.Errorf("Free %d of %d", x.Free(), free)
	}
	v.Close()
	m.want(t, "B3: nothing", x)
}

// TestAnyOrder: sets of unlike keys, in any order, in one Write or in several ones.
func TestAnyOrder(t *testing.T) {
	r := rand.New(rand.NewSource(3))
	_, _, m := standing(t, 800)
	for _, most := range []int{1, 2, 7, 50, 9999} {
		_, x := newTree(t, 800)
		l := m.pairs()
		switch most {
		case 7:
			slices.Reverse(l)
		default:
			r.Shuffle(len(l), func(i, j int) { l[i], l[j] = l[j], l[i] })
		}
		for len(l) > 0 {
			n := min(len(l), most)
			want(t, "B3", x.Write(l[:n], nil), api.OK)
			l = l[n:]
		}
		m.want(t, "P6.3", x)
	}
}

// kinds are ways to choose a pair's lengths: of a key (behind its four bytes) and of a value.
var kinds = []struct{ key, keys, value, values int }{
	{0, 1, 0, 1}, {0, 1, 0, 121}, {0, 37, 0, 1}, {36, 1, 120, 1}, {36, 1, 0, 4}, {0, 37, 0, 121}, {0, 1, 115, 6},
}

func pairOf(r *rand.Rand, kind, keys int) api.Pair {
	k := kinds[kind]
	n := r.Intn(keys)
	key := fmt.Sprintf("%04d", n) + long("k", k.key+n%k.keys)
	return api.Pair{Key: key, Value: long(string(rune('a'+r.Intn(26))), k.value+r.Intn(k.values))}
}

// TestWalk: many Writes of all kinds, views, crashes, against a plain map. The tree grows and shrinks by turns.
func TestWalk(t *testing.T) {
	for seed := range int64(40) {
		r := rand.New(rand.NewSource(seed))
		sectors := []int{256, 400, 1000, 3000}[seed%4]
		d, x := newTree(t, sectors)
		m, keys := model{}, 1+r.Intn(sectors/2)
		free := x.Free()
		for round := range 120 {
			kind := r.Intn(len(kinds))
			var sets []api.Pair
			var dels []string
			for range r.Intn(1 + r.Intn(40)) {
				if r.Intn(10) < 3+4*(round/20%2) {
					dels = append(dels, anyKey(r, m, pairOf(r, kind, keys).Key))
				} else {
					sets = append(sets, pairOf(r, kind, keys))
				}
			}
			if m.behind(sets, dels).bytes() > 2*sectors {
				sets = nil
			}
			m = write(t, x, m, sets, dels)
			m.want(t, "walk", x)
			if r.Intn(9) == 0 {
				d.Crash("\x01\x01")
				x = open(t, d)
				m.want(t, "walk, opened", x)
			}
		}
		m = write(t, x, m, nil, slices.Sorted(maps.Keys(m)))
		m.want(t, "emptied", x)
		if x.Free() != free {
			t.Fatalf("P6.5: Free %d of %d", x.Free(), free)
		}
	}
}

// anyKey is a key that is there, if there is one, or now and then another one.
func anyKey(r *rand.Rand, m model, other string) string {
	if len(m) == 0 || r.Intn(5) == 0 {
		return other
	}
	keys := slices.Sorted(maps.Keys(m))
	return keys[r.Intn(len(keys))]
}

// TestRoom: a device filled as far as P6.2 goes, changed as a whole and one by one, thinned out, filled again.
func TestRoom(t *testing.T) {
	for _, sectors := range []int{256, 257, 300, 511, 1000, 8192} {
		for kind := range kinds {
			r := rand.New(rand.NewSource(int64(kind)))
			d, x := newTree(t, sectors)
			free := x.Free()
			m := model{}
			for turn := range 1 + 512/sectors {
				filled := full(r, (kind+turn)%len(kinds), 2*sectors)
				m = write(t, x, m, filled.pairs(), slices.Sorted(maps.Keys(m)))
				m.want(t, "P6.2: all at once", x)
				m = thinned(t, r, x, m)
				m = write(t, x, m, m.pairs(), nil)
				m = refilled(t, r, x, m, kind, 2*sectors)
				m.want(t, "P6.2: one by one", x)
			}
			d.Crash("")
			x = open(t, d)
			m.want(t, "P6.2: opened", x)
			write(t, x, m, nil, slices.Sorted(maps.Keys(m)))
			if x.Len() != 0 || x.Free() != free {
				t.Fatalf("P6.5: Free %d of %d", x.Free(), free)
			}
		}
	}
}

// full is pairs of a kind, as many as P6.2 lets be.
func full(r *rand.Rand, kind, most int) model {
	m := model{}
	for range most {
		x := pairOf(r, kind, 9000)
		if _, there := m[x.Key]; !there && m.bytes()+len(x.Key)+len(x.Value)+4 <= most {
			m[x.Key] = x.Value
		}
		if m.bytes() > most-6 {
			break
		}
	}
	return m
}

// thinned takes away all but every so manieth pair, so that many nodes are left with little.
func thinned(t *testing.T, r *rand.Rand, x *tree.Tree, m model) model {
	t.Helper()
	every := 2 + r.Intn(12)
	for i, key := range slices.Sorted(maps.Keys(m)) {
		if i%every != 0 && (i < 60 || i%40 != 1) {
			m = write(t, x, m, nil, []string{key})
		}
	}
	return m
}

// refilled puts pairs in, one by one, as far as P6.2 goes.
func refilled(t *testing.T, r *rand.Rand, x *tree.Tree, m model, kind, most int) model {
	t.Helper()
	for range 300 {
		y := pairOf(r, kind, 9000)
		if m.behind([]api.Pair{y}, nil).bytes() <= most {
			m = write(t, x, m, []api.Pair{y}, nil)
		}
	}
	return m
}

// TestLeastDevice: on the least device that has room for a page, one page is used.
func TestLeastDevice(t *testing.T) {
	for sectors := 31; sectors < 52; sectors++ {
		d := newDev(t, sectors)
		x, e := tree.New(d)
		if e != api.OK {
			continue
		}
		if x.Free() != 1 {
			t.Fatalf("B1: %d sectors: Free %d", sectors, x.Free())
		}
		m := write(t, x, model{}, []api.Pair{{Key: "a", Value: long("v", 120)}, {Key: "b", Value: "2"}}, nil)
		want(t, "B3: no page is free", x.Write(nil, []string{"a"}), api.ErrNoSpace)
		m.want(t, "B3", x)
		d.Crash("")
		x = open(t, d)
		m.want(t, "B1", x)
		m = write(t, x, m, nil, []string{"a", "b"})
		m.want(t, "B3: emptied", x)
		return
	}
	t.Error("B1: no device has room for one page alone")
}

// TestNoSpace: without room nothing changes, and it is refused at once; when room is made, it goes on.
func TestNoSpace(t *testing.T) {
	d, x := newTree(t, 52)
	m := model{}
	refused := 0
	for i := range 300 {
		y := api.Pair{Key: fmt.Sprint(i*7919%1000, "-", long("k", i%30)), Value: long("v", i%121)}
		d.Fuse(mostSteps)
		e := x.Write([]api.Pair{y}, nil)
		d.Fuse(-1)
		switch e {
		case api.OK:
			m[y.Key] = y.Value
		case api.ErrNoSpace:
			refused++
		default:
			t.Fatalf("B3: %d", e)
		}
		if len(d.Waiting()) > 0 {
			t.Fatal("P6.4: something waits")
		}
		m.want(t, "B3: full", x)
	}
	if refused == 0 {
		t.Fatal("B3: there is no end to the room")
	}
	d.Crash("")
	x = open(t, d)
	m.want(t, "P6.1: full", x)
	for _, key := range slices.Sorted(maps.Keys(m)) {
		if e := x.Write(nil, []string{key}); e == api.OK {
			delete(m, key)
		} else if e != api.ErrNoSpace {
			t.Fatalf("B3: %d", e)
		}
		m.want(t, "B3: made room", x)
	}
	if len(m) > 5 {
		t.Errorf("B3: %d pairs can't be taken away", len(m))
	}
}

func TestView(t *testing.T) {
	_, x, m := standing(t, 300)
	free := x.Free()
	v, w := x.View(), x.View()
	keys := slices.Sorted(maps.Keys(m))
	now := write(t, x, m, []api.Pair{{Key: "new", Value: "1"}, {Key: keys[2], Value: "2"}}, keys[5:9])
	u := x.View()
	none := write(t, x, now, nil, slices.Sorted(maps.Keys(now)))
	empty := x.View()
	last := write(t, x, none, []api.Pair{{Key: "b", Value: "last"}}, nil)
	show := func(what string) {
		t.Helper()
		m.want(t, what+": the second view", w)
		now.want(t, what+": the third view", u)
		none.want(t, what+": the view of nothing", empty)
		last.want(t, what+": the tree", x)
	}
	m.want(t, "P6.7: the first view", v)
	show("P6.7")
	for range 5 {
		v.Close()
		wantNothing(t, "B4: closed", v)
		show("B4: the first view is closed")
	}
	if x.Free() >= free {
		t.Error("B4: pages that views need are free")
	}
	for _, y := range []*tree.View{w, u, empty} {
		y.Close()
		wantNothing(t, "B4: closed", y)
	}
	last.want(t, "B4: all are closed", x)
	write(t, x, last, nil, []string{"b"})
	if _, y := newTree(t, 300); x.Free() != y.Free() {
		t.Errorf("P6.5: Free %d of %d", x.Free(), y.Free())
	}
}

// seen is a view, and what it is to show.
type seen struct {
	v *tree.View
	m model
}

// TestViews: views that come and go while pairs are written and taken away.
func TestViews(t *testing.T) {
	for seed := range int64(12) {
		r := rand.New(rand.NewSource(seed))
		d, x := newTree(t, 1500)
		free := x.Free()
		m := model{}
		var views []seen
		for range 150 {
			switch r.Intn(6) {
			case 0:
				views = append(views, seen{x.View(), m})
			case 1, 2:
				if len(views) > 0 {
					i := r.Intn(len(views))
					views[i].v.Close()
					wantNothing(t, "B4", views[i].v)
					views = slices.Delete(views, i, i+1)
				}
			default:
				sets, dels := anyWrite(r, m)
				if e := x.Write(sets, dels); e == api.OK {
					m = m.behind(sets, dels)
				} else if e != api.ErrNoSpace || len(views) == 0 {
					t.Fatalf("B3: %d", e)
				}
			}
			m.want(t, "B3", x)
			for _, y := range views {
				y.m.want(t, "P6.7", y.v)
			}
		}
		c := d.Copy()
		for _, y := range views {
			y.v.Close()
		}
		m.want(t, "B4", x)
		write(t, x, m, nil, slices.Sorted(maps.Keys(m)))
		if x.Free() != free {
			t.Fatalf("P6.5: Free %d of %d", x.Free(), free)
		}
		c.Crash("")
		x = open(t, c)
		m.want(t, "P6.1: views were open", x)
		write(t, x, m, nil, slices.Sorted(maps.Keys(m)))
		if x.Free() != free {
			t.Fatalf("P6.5: views were open: Free %d of %d", x.Free(), free)
		}
	}
}

func anyWrite(r *rand.Rand, m model) ([]api.Pair, []string) {
	var sets []api.Pair
	var dels []string
	for range r.Intn(8) {
		sets = append(sets, pairOf(r, r.Intn(len(kinds)), 60))
	}
	for range r.Intn(8) {
		dels = append(dels, anyKey(r, m, "none"))
	}
	return sets, dels
}

// viewed is a tree, a view of it, and one that was closed.
func viewed(t *testing.T) (*dev.Dev, *tree.Tree, *tree.View, *tree.View, model) {
	t.Helper()
	d, x := newTree(t, 300)
	m := write(t, x, model{}, []api.Pair{{Key: "a", Value: "1"}, {Key: "b", Value: "2"}}, nil)
	v, closed := x.View(), x.View()
	closed.Close()
	return d, x, v, closed, m
}

func TestLost(t *testing.T) {
	for name, call := range map[string]func(x *tree.Tree, v, closed *tree.View){
		"Get":                 func(x *tree.Tree, v, closed *tree.View) { x.Get("a") },
		"Scan":                func(x *tree.Tree, v, closed *tree.View) { x.Scan("a", 1) },
		"Scan of none":        func(x *tree.Tree, v, closed *tree.View) { x.Scan("a", 0) },
		"Write":               func(x *tree.Tree, v, closed *tree.View) { x.Write(nil, nil) },
		"Len":                 func(x *tree.Tree, v, closed *tree.View) { x.Len() },
		"Free":                func(x *tree.Tree, v, closed *tree.View) { x.Free() },
		"View":                func(x *tree.Tree, v, closed *tree.View) { x.View() },
		"a view's Get":        func(x *tree.Tree, v, closed *tree.View) { v.Get("a") },
		"a view's Scan":       func(x *tree.Tree, v, closed *tree.View) { v.Scan("a", 1) },
		"a view's no Scan":    func(x *tree.Tree, v, closed *tree.View) { v.Scan("a", 0) },
		"a view's Len":        func(x *tree.Tree, v, closed *tree.View) { v.Len() },
		"a view's Close":      func(x *tree.Tree, v, closed *tree.View) { v.Close() },
		"a closed one's Get":  func(x *tree.Tree, v, closed *tree.View) { closed.Get("a") },
		"a closed one's Scan": func(x *tree.Tree, v, closed *tree.View) { closed.Scan("a", 1) },
		"a closed one's Len":  func(x *tree.Tree, v, closed *tree.View) { closed.Len() },
		"a closed Close":      func(x *tree.Tree, v, closed *tree.View) { closed.Close() },
	} {
		d, x, v, closed, m := viewed(t)
		d.Fuse(0)
		call(x, v, closed)
		d.Fuse(-1)
		wantNothing(t, name+" while it was down, the view", v)
		wantLost(t, name+" while it was down", d, x)
		v.Close()
		m.want(t, name+", opened", open(t, d))
	}
}

func TestDown(t *testing.T) {
	d, x, v, _, m := viewed(t)
	d.Fuse(0)
	wantNothing(t, "down, the view", v)
	wantLost(t, "down", d, x)
	d, x, v, _, m = viewed(t)
	d.Fuse(0)
	d.Fuse(-1)
	m.want(t, "no call while it was down", x)
	m.want(t, "no call while it was down, the view", v)
	d.Crash("")
	wantLost(t, "crashed", d, x)
	wantNothing(t, "crashed, the view", v)
	m.want(t, "opened", open(t, d))
}

// View answers nil when the tree is lost: to ask that is to ask a view of nothing.
func TestNoView(t *testing.T) {
	d, x, _, _, _ := viewed(t)
	d.Crash("")
	v := x.View()
	if v != nil {
		t.Fatal("B4: a view of a lost tree")
	}
	wantNothing(t, "B4: no view", v)
	v.Close()
}

// steps is how many writes and syncs a call does on a device.
func steps(t *testing.T, d *dev.Dev, call func()) int {
	t.Helper()
	d.Fuse(mostSteps)
	call()
	for n := range mostSteps {
		if !d.Up() {
			return mostSteps - n
		}
		d.Sync()
	}
	t.Fatal("more steps than a Write may need, or none")
	return 0
}

// A Write that answers OK loses nothing, also where its last write burnt the fuse; one that answers ErrDown does.
func TestWriteBurnsTheFuse(t *testing.T) {
	sets := []api.Pair{{Key: "c", Value: "3"}}
	d, x, v, _, m := viewed(t)
	c := d.Copy()
	y := open(t, c)
	n := steps(t, c, func() { y.Write(sets, nil) })
	d.Fuse(n)
	want(t, "Write", x.Write(sets, nil), api.OK)
	if d.Up() {
		t.Fatal("the fuse is not burnt")
	}
	d.Fuse(-1)
	m.behind(sets, nil).want(t, "burnt by the last write", x)
	m.want(t, "burnt by the last write, the view", v)
	d, x, v, _, _ = viewed(t)
	d.Fuse(n - 1)
	want(t, "Write", x.Write(sets, nil), api.ErrDown)
	d.Fuse(-1)
	wantLost(t, "ErrDown on the way", d, x)
	wantNothing(t, "ErrDown on the way, the view", v)
}

// masks are what a crash lets survive: nothing, all, each second sector, and some.
func masks(r *rand.Rand, waiting int) []string {
	l := []string{"", long("\x01", waiting), long("\x01\x00", waiting), long("\x00\x01", waiting)}
	for range 4 {
		b := make([]byte, waiting)
		r.Read(b)
		l = append(l, string(b))
	}
	return l
}

// TestEveryPoint: a fuse of every number ahead of a Write, and several kinds of survival.
func TestEveryPoint(t *testing.T) {
	r := rand.New(rand.NewSource(8))
	d, _, m := standing(t, 400)
	keys := slices.Sorted(maps.Keys(m))
	for name, x := range map[string]struct {
		sets []api.Pair
		dels []string
	}{
		"one pair":   {[]api.Pair{{Key: "k5", Value: "new"}}, nil},
		"one gone":   {nil, keys[3:4]},
		"some":       {[]api.Pair{{Key: "0", Value: long("0", 120)}, {Key: keys[2], Value: ""}, {Key: "z", Value: "z"}}, keys[4:11]},
		"all gone":   {nil, keys},
		"all anew":   {[]api.Pair{{Key: "b", Value: "1"}, {Key: "k1", Value: long("1", 100)}, {Key: "k2", Value: long("1", 100)}}, keys},
		"most gone":  {nil, keys[1 : len(keys)-1]},
		"all longer": {model{keys[0]: long("y", 120), keys[5]: long("y", 120), keys[6]: long("y", 120)}.pairs(), nil},
	} {
		after := m.behind(x.sets, x.dels)
		c := d.Copy()
		y := open(t, c)
		n := steps(t, c, func() { want(t, name, y.Write(x.sets, x.dels), api.OK) })
		for fuse := range n + 1 {
			cut := d.Copy()
			y := open(t, cut)
			cut.Fuse(fuse)
			e := y.Write(x.sets, x.dels)
			if e != api.OK && (e != api.ErrDown || fuse >= n) || e == api.OK && fuse < n {
				t.Fatalf("B3: %s: fuse %d of %d: %d", name, fuse, n, e)
			}
			for _, mask := range masks(r, len(cut.Waiting())) {
				c := cut.Copy()
				c.Crash(mask)
				wantEither(t, name, c, m, after, e)
			}
			cut.Fuse(-1)
			wantEither(t, name+", without a crash", cut, m, after, e)
		}
	}
}

// wantEither: an Open finds the map ahead of a Write or, if it was answered, the one behind it; and it finds no pages lost on the way.
func wantEither(t *testing.T, what string, d *dev.Dev, ahead, behind model, e api.Errno) {
	t.Helper()
	x := open(t, d)
	if behind.differs(x) != "" {
		if s := ahead.differs(x); s != "" || e == api.OK {
			t.Fatalf("P6.1: %s: %s, the Write answered %d", what, s, e)
		}
	}
	want(t, what+": emptied", x.Write(nil, slices.Concat(slices.Sorted(maps.Keys(ahead)), slices.Sorted(maps.Keys(behind)))), api.OK)
	if y, _ := tree.New(newDev(t, d.Sectors())); x.Free() != y.Free() {
		t.Fatalf("P6.5: %s: Free %d of %d", what, x.Free(), y.Free())
	}
}

// TestCrashes: Writes one behind the other, each of which may be cut off.
func TestCrashes(t *testing.T) {
	for seed := range int64(20) {
		r := rand.New(rand.NewSource(seed))
		d, x := newTree(t, 500)
		m := model{}
		for range 80 {
			sets, dels := anyWrite(r, m)
			after := m.behind(sets, dels)
			if after.bytes() > 2*500 {
				sets, after = nil, m.behind(nil, dels)
			}
			if r.Intn(2) == 0 {
				d.Fuse(r.Intn(60))
			}
			e := x.Write(sets, dels)
			if e != api.OK && (e != api.ErrDown || d.Up()) {
				t.Fatalf("B3: %d", e)
			}
			mask := make([]byte, r.Intn(40))
			r.Read(mask)
			d.Crash(string(mask))
			x = open(t, d)
			if e != api.OK && m.differs(x) == "" {
				after = m
			}
			after.want(t, "P6.1", x)
			m = after
		}
	}
}

// TestOpenCutOff: an Open that goes down on the way answers ErrDown, and the one behind it finds the same.
func TestOpenCutOff(t *testing.T) {
	d, x, m := standing(t, 300)
	sets := []api.Pair{{Key: "k1", Value: "new"}}
	c := d.Copy()
	y := open(t, c)
	n := steps(t, c, func() { y.Write(sets, nil) })
	d.Fuse(n - 2)
	want(t, "Write", x.Write(sets, nil), api.ErrDown)
	d.Crash("")
	m = modelOf(open(t, d.Copy()))
	cut := 0
	for fuse := range mostSteps {
		c := d.Copy()
		c.Fuse(fuse)
		x, e := tree.Open(c)
		if e == api.OK {
			c.Fuse(-1)
			m.want(t, "B1", x)
			break
		}
		if x != nil || e != api.ErrDown {
			t.Fatalf("B1: fuse %d: %d", fuse, e)
		}
		cut++
		c.Crash("\x01")
		m.want(t, "P6.1", open(t, c))
	}
	if cut < 2 {
		t.Errorf("B1: only %d Opens were cut off", cut)
	}
}

func modelOf(x reader) model {
	m := model{}
	for _, y := range x.Scan("", math.MaxInt) {
		m[y.Key] = y.Value
	}
	return m
}

// TestStrangeDevices: whatever comes to stand on a device, calls end, and none panics.
func TestStrangeDevices(t *testing.T) {
	for seed := range int64(600) {
		r := rand.New(rand.NewSource(seed))
		d, x, _ := standing(t, 256)
		v := x.View()
		for range 1 + r.Intn(6) {
			at := r.Intn(100)
			b, _ := d.Read(at)
			if r.Intn(2) == 0 {
				b, _ = d.Read(r.Intn(100))
			}
			bytes := []byte(b)
			for range r.Intn(5) {
				bytes[r.Intn(64)] = byte(r.Intn(256) >> r.Intn(8))
			}
			d.Write(at, string(bytes))
		}
		c := d.Copy()
		try(r, x, v)
		y, e := tree.Open(c)
		if y == nil {
			want(t, "B1", e, api.ErrTreeForm)
			continue
		}
		try(r, y, y.View())
	}
}

// TestTwoTrees: two trees on one device know nothing of one another, but all calls end.
func TestTwoTrees(t *testing.T) {
	for seed := range int64(60) {
		r := rand.New(rand.NewSource(seed))
		d, x, _ := standing(t, 256)
		y := open(t, d)
		v, w := x.View(), y.View()
		for range 6 {
			try(r, x, v)
			try(r, y, w)
		}
	}
}

func try(r *rand.Rand, x *tree.Tree, v *tree.View) {
	for _, y := range []reader{x, v} {
		for range 5 {
			y.Get(fmt.Sprintf("k%03d", r.Intn(500)))
		}
		y.Scan("", math.MaxInt)
		y.Scan("k2", 9)
		y.Len()
	}
	m := modelOf(v)
	x.Write(anyWrite(r, m))
	x.Write(m.pairs(), nil)
	x.Write(nil, slices.Sorted(maps.Keys(m)))
	x.Scan("", math.MaxInt)
	v.Close()
}
