package chunks_test

import (
	"fmt"
	"maps"
	"math/rand"
	"slices"
	"strings"
	"testing"

	"oxbow/api"
	"oxbow/chunks"
	"oxbow/dev"
	"oxbow/digest"
	"oxbow/tree"
)

// mostSteps is more than any Write or Sweep of these tests writes and syncs.
const mostSteps = 5000

func newDev(t *testing.T, sectors int) *dev.Dev {
	t.Helper()
	d, e := dev.New(sectors)
	if d == nil || e != api.OK {
		t.Fatalf("D1: New(%d): %d", sectors, e)
	}
	return d
}

func newStore(t *testing.T, sectors int) (*dev.Dev, *chunks.Store) {
	t.Helper()
	d := newDev(t, sectors)
	s, e := chunks.New(d)
	if s == nil || e != api.OK {
		t.Fatalf("C1: New: %d", e)
	}
	return d, s
}

func open(t *testing.T, d *dev.Dev) *chunks.Store {
	t.Helper()
	s, e := chunks.Open(d)
	if s == nil || e != api.OK {
		t.Fatalf("C1: Open: %d", e)
	}
	return s
}

func want(t *testing.T, what string, got, e api.Errno) {
	t.Helper()
	if got != e {
		t.Fatalf("%s: %d, want %d", what, got, e)
	}
}

func long(s string, n int) string { return strings.Repeat(s, n) }

// text is so many bytes of which no two chunks are alike.
func text(seed int64, n int) string {
	b := make([]byte, n)
	rand.New(rand.NewSource(seed)).Read(b)
	return string(b)
}

// model is what a store is to have: values by their keys, and the chunks that it keeps.
type model struct {
	values map[string]string
	kept   map[string]struct{}
}

func empty() model { return model{map[string]string{}, map[string]struct{}{}} }

// pieces is a value's chunks.
func pieces(value string) []string {
	var l []string
	for at := 0; at < len(value); at += 64 {
		l = append(l, value[at:min(at+64, len(value))])
	}
	return l
}

func (m model) keys() []string { return slices.Sorted(maps.Keys(m.values)) }

// behind is the model behind a Write.
func (m model) behind(sets []api.Pair, dels []string) model {
	m = model{maps.Clone(m.values), maps.Clone(m.kept)}
	for _, key := range dels {
		delete(m.values, key)
	}
	for _, x := range sets {
		m.values[x.Key] = x.Value
	}
	for _, x := range sets {
		for _, c := range pieces(m.values[x.Key]) {
			m.kept[c] = struct{}{}
		}
	}
	return m
}

// swept is the model behind a Sweep.
func (m model) swept() model {
	needed := map[string]struct{}{}
	for _, value := range m.values {
		for _, c := range pieces(value) {
			needed[c] = struct{}{}
		}
	}
	return model{m.values, needed}
}

// idle is how many chunks are kept that no value has.
func (m model) idle() int { return len(m.kept) - len(m.swept().kept) }

// size is what P8.3 counts.
func (m model) size() int {
	n := 100 * m.idle()
	for _, value := range m.values {
		n += 200 + len(value)
	}
	return n
}

// collides tells whether two unlike ones, of the chunks that are kept and those of sets, have one digest.
func (m model) collides(sets []api.Pair) bool {
	all := maps.Clone(m.kept)
	for _, x := range sets {
		for _, c := range pieces(x.Value) {
			all[c] = struct{}{}
		}
	}
	sums := map[uint32]struct{}{}
	for c := range all {
		sums[digest.Sum(c)] = struct{}{}
	}
	return len(sums) < len(all)
}

// differs tells what of a store's keys and values is not as in the model; "": nothing.
func (m model) differs(s *chunks.Store) string {
	if l := s.Keys(); !slices.Equal(l, m.keys()) {
		return fmt.Sprintf("Keys: %q", l)
	}
	for _, key := range m.keys() {
		if value, ok := s.Get(key); value != m.values[key] || !ok {
			return fmt.Sprintf("Get(%q): %d bytes, %v", key, len(value), ok)
		}
		for _, key := range []string{key + "\x00", key[:len(key)-1], key + "\xff", "v" + key, "m\x01" + key} {
			value, is := m.values[key]
			if got, ok := s.Get(key); got != value || ok != is {
				return fmt.Sprintf("Get(%q): %d bytes, %v", key, len(got), ok)
			}
		}
	}
	return ""
}

// want: a store is just as the model says.
func (m model) want(t *testing.T, what string, s *chunks.Store) {
	t.Helper()
	if x := m.differs(s); x != "" {
		t.Fatalf("%s: %s", what, x)
	}
	if s.Chunks() != len(m.kept) {
		t.Fatalf("%s: Chunks %d, want %d", what, s.Chunks(), len(m.kept))
	}
}

// wantNothing: a store answers as if there were no key and no chunk.
func wantNothing(t *testing.T, what string, s *chunks.Store) {
	t.Helper()
	for _, key := range []string{"", "a", "b"} {
		if value, ok := s.Get(key); value != "" || ok {
			t.Errorf("%s: Get(%q): %q, %v", what, key, value, ok)
		}
	}
	if l := s.Keys(); len(l) != 0 {
		t.Errorf("%s: Keys %q", what, l)
	}
	if s.Chunks() != 0 {
		t.Errorf("%s: Chunks %d", what, s.Chunks())
	}
}

// wantLost: Write and Sweep answer ErrDown, whatever they are given, and all others as if there were nothing.
func wantLost(t *testing.T, what string, d *dev.Dev, s *chunks.Store) {
	t.Helper()
	waiting := d.Waiting()
	wantNothing(t, what, s)
	if s.Dev() != d {
		t.Errorf("%s: Dev is another one", what)
	}
	want(t, what+": Write", s.Write([]api.Pair{{Key: "b", Value: "lost"}}, nil), api.ErrDown)
	want(t, what+": Write", s.Write([]api.Pair{{Key: "", Value: long("x", 30001)}}, nil), api.ErrDown)
	want(t, what+": Write", s.Write([]api.Pair{{Key: "a", Value: "costarring"}, {Key: "b", Value: "liquid"}}, nil), api.ErrDown)
	want(t, what+": Write", s.Write(nil, []string{""}), api.ErrDown)
	want(t, what+": Write", s.Write(nil, nil), api.ErrDown)
	if n, e := s.Sweep(); n != 0 || e != api.ErrDown {
		t.Errorf("%s: Sweep: %d, %d", what, n, e)
	}
	if !slices.Equal(waiting, d.Waiting()) {
		t.Errorf("%s: a lost store wrote", what)
	}
}

// write writes to a store, which must go, and is the model behind.
func write(t *testing.T, s *chunks.Store, m model, sets []api.Pair, dels []string) model {
	t.Helper()
	want(t, "C3: Write", s.Write(sets, dels), api.OK)
	m = m.behind(sets, dels)
	m.want(t, "C3: Write", s)
	return m
}

// sweep sweeps a store, which must go, and is the model behind.
func sweep(t *testing.T, s *chunks.Store, m model) model {
	t.Helper()
	if n, e := s.Sweep(); n != m.idle() || e != api.OK {
		t.Fatalf("C4: Sweep: %d, %d, want %d", n, e, m.idle())
	}
	m = m.swept()
	m.want(t, "P8.2: swept", s)
	return m
}

func TestNew(t *testing.T) {
	for sectors := api.MinSectors; sectors <= 300; sectors++ {
		d := newDev(t, sectors)
		d.Fuse(1)
		s, e := chunks.New(d)
		_, f := tree.New(d)
		if e != f || s == nil != (e != api.OK) || e != api.OK && (e != api.ErrNoSpace || sectors >= 52) {
			t.Errorf("C1: New of %d sectors: %d", sectors, e)
		}
		if _, f := chunks.Open(d); f != e {
			t.Errorf("C1: Open of %d sectors: %d", sectors, f)
		}
		if !d.Up() || len(d.Waiting()) != 0 {
			t.Errorf("C1: New of %d sectors wrote", sectors)
		}
		if s == nil {
			continue
		}
		wantNothing(t, "C1: New", s)
		if s.Dev() != d {
			t.Error("C2: Dev is another one")
		}
	}
}

// Of several errors the one that is named first is the answer.
func TestBeginErrors(t *testing.T) {
	for _, begin := range []func(*dev.Dev) (*chunks.Store, api.Errno){chunks.New, chunks.Open} {
		if s, e := begin(nil); s != nil || e != api.ErrArg {
			t.Errorf("C1: nil: %d", e)
		}
		for _, sectors := range []int{8, 31, 32, 100} {
			d := newDev(t, sectors)
			d.Write(3, long("x", 64))
			d.Fuse(0)
			if s, e := begin(d); s != nil || e != api.ErrDown {
				t.Errorf("C1: %d sectors, down: %d", sectors, e)
			}
		}
		for _, sectors := range []int{8, 31, 32} {
			d := newDev(t, sectors)
			d.Write(3, long("x", 64))
			if s, e := begin(d); s != nil || e != api.ErrNoSpace {
				t.Errorf("C1: %d sectors: %d", sectors, e)
			}
		}
	}
	for _, sync := range []int{0, 1} {
		d := newDev(t, 100)
		d.Write(3, long("x", 64))
		for range sync {
			d.Sync()
		}
		if s, e := chunks.New(d); s != nil || e != api.ErrChunksForm {
			t.Errorf("C1: not empty: %d", e)
		}
	}
	d, s := newStore(t, 100)
	want(t, "Write", s.Write([]api.Pair{{Key: "a"}}, nil), api.OK)
	if s, e := chunks.New(d); s != nil || e != api.ErrChunksForm {
		t.Errorf("C1: New where there is a store: %d", e)
	}
	d = newDev(t, 100)
	s = open(t, d)
	wantNothing(t, "C1: Open of an empty device", s)
	if s.Dev() != d || len(d.Waiting()) != 0 {
		t.Error("C1: Open of an empty device")
	}
}

// A device on which something stands that no store wrote, though a tree did.
func TestNotAStore(t *testing.T) {
	for _, key := range []string{"a", "z", "v", "cosa", "w123"} {
		d := newDev(t, 100)
		x, _ := tree.New(d)
		want(t, "B3", x.Write([]api.Pair{{Key: key, Value: "v"}}, nil), api.OK)
		if s, e := chunks.Open(d); s != nil || e != api.ErrChunksForm {
			t.Errorf("C1: a tree with %q: %d", key, e)
		}
	}
}

// TestExample1 and the one behind it are the chapter's own.
func TestExample1(t *testing.T) {
	_, s := newStore(t, 256)
	x := long("x", 64)
	want(t, "Write", s.Write([]api.Pair{{Key: "a", Value: x + "y"}, {Key: "b", Value: x}}, nil), api.OK)
	if s.Chunks() != 2 {
		t.Errorf("Chunks %d", s.Chunks())
	}
	want(t, "Write of dels", s.Write(nil, []string{"a"}), api.OK)
	if s.Chunks() != 2 {
		t.Errorf("Chunks %d behind dels", s.Chunks())
	}
	if n, e := s.Sweep(); n != 1 || e != api.OK || s.Chunks() != 1 {
		t.Errorf("Sweep: %d, %d; Chunks %d", n, e, s.Chunks())
	}
	if value, ok := s.Get("b"); value != x || !ok {
		t.Errorf("Get(b): %q, %v", value, ok)
	}
}

func TestExample2(t *testing.T) {
	_, s := newStore(t, 256)
	b := []api.Pair{{Key: "b", Value: "liquid"}}
	want(t, "a", s.Write([]api.Pair{{Key: "a", Value: "costarring"}}, nil), api.OK)
	want(t, "b", s.Write(b, nil), api.ErrCollision)
	want(t, "dels a", s.Write(nil, []string{"a"}), api.OK)
	want(t, "b again", s.Write(b, nil), api.ErrCollision)
	if n, e := s.Sweep(); n != 1 || e != api.OK {
		t.Errorf("Sweep: %d, %d", n, e)
	}
	want(t, "b at last", s.Write(b, nil), api.OK)
	if value, ok := s.Get("b"); value != "liquid" || !ok {
		t.Errorf("Get(b): %q, %v", value, ok)
	}
}

func TestEdgesOfKeysAndValues(t *testing.T) {
	d, s := newStore(t, 4000)
	m := empty()
	for i, n := range []int{0, 1, 63, 64, 65, 127, 128, 129, 1919, 1920, 1921, 3840, 29999, 30000} {
		key := long("k", 1+i%2*29) + fmt.Sprint(i)
		m = write(t, s, m, []api.Pair{{Key: key[len(fmt.Sprint(i)):], Value: text(int64(i), n)}}, nil)
		d.Crash("")
		s = open(t, d)
		m.want(t, fmt.Sprint("P8.1: a value of ", n), s)
	}
	m = write(t, s, m, nil, m.keys())
	m = sweep(t, s, m)
	for _, value := range []string{"\x00", "\xff", long("\x00", 64), long("\xff", 65), long("\x00", 128) + "\x01", "é€"} {
		m = write(t, s, m, []api.Pair{{Key: "\x00", Value: value}, {Key: long("\xff", 30), Value: value}}, nil)
	}
	m = write(t, s, m, []api.Pair{{Key: "ab"}, {Key: "a", Value: "1"}, {Key: "abc"}, {Key: "a\x00"}, {Key: "b"}, {Key: "B"}, {Key: "\x80"}, {Key: "m\x01a"}, {Key: "va"}, {Key: "\x01"}}, nil)
	if l := s.Keys(); !slices.Equal(l, []string{"\x00", "\x01", "B", "a", "a\x00", "ab", "abc", "b", "m\x01a", "va", "\x80", long("\xff", 30)}) {
		t.Errorf("C2: Keys: %q", l)
	}
	for _, key := range []string{"", long("\xff", 31), long("\xff", 29), long("k", 9999), "c", "A"} {
		if value, ok := s.Get(key); value != "" || ok {
			t.Errorf("C2: Get(%q): %q, %v", key, value, ok)
		}
	}
	d.Crash("")
	m.want(t, "P8.1", open(t, d))
}

// A value of the greatest length comes, shrinks, grows and goes.
func TestLengths(t *testing.T) {
	d, s := newStore(t, 8192)
	m := empty()
	for i, n := range []int{30000, 100, 5000, 0, 30000, 1920, 1921, 1920, 64, 65} {
		m = write(t, s, m, []api.Pair{{Key: "a", Value: text(int64(i), n)}, {Key: "b", Value: "b"}}, nil)
		m = sweep(t, s, m)
	}
	m = write(t, s, m, []api.Pair{{Key: "a", Value: text(1, 30000)}}, nil)
	m = write(t, s, m, nil, []string{"a"})
	m = write(t, s, m, []api.Pair{{Key: "a", Value: text(2, 10)}}, nil)
	m = sweep(t, s, m)
	d.Crash("")
	m.want(t, "P8.1", open(t, d))
}

// standing is a store with long and short values, shared chunks and idle ones, and its model.
func standing(t *testing.T, sectors int) (*dev.Dev, *chunks.Store, model) {
	t.Helper()
	d, s := newStore(t, sectors)
	m := write(t, s, empty(), []api.Pair{{Key: "gone", Value: text(1, 200)}, {Key: "a", Value: long("x", 130)}, {Key: "costar", Value: "costarring"}}, nil)
	m = write(t, s, m, []api.Pair{{Key: "b", Value: long("x", 64) + "y"}, {Key: "empty"}, {Key: long("k", 30), Value: text(2, 300)}}, []string{"gone"})
	if m.idle() != 4 {
		t.Fatalf("standing: %d idle chunks", m.idle())
	}
	return d, s, m
}

func TestWriteRefused(t *testing.T) {
	d, s, m := standing(t, 400)
	good, much := api.Pair{Key: "good", Value: "1"}, api.Pair{Key: "k", Value: long("v", 30001)}
	d.Fuse(1)
	for i, l := range [][]api.Pair{{{Key: ""}}, {{Key: long("k", 31)}}, {{Key: long("k", 40)}}, {{Key: long("k", 9999)}}, {good, {Key: ""}}, {{Key: ""}, good}, {much, {Key: ""}}, {{Key: "c", Value: "liquid"}, {Key: ""}}} {
		want(t, fmt.Sprintf("C3: sets %d", i), s.Write(l, nil), api.ErrArg)
	}
	for i, l := range [][]string{{""}, {long("k", 31)}, {"k", ""}, {"", "k"}} {
		want(t, fmt.Sprintf("C3: dels %d", i), s.Write([]api.Pair{good}, l), api.ErrArg)
		want(t, fmt.Sprintf("C3: dels %d", i), s.Write([]api.Pair{much, {Key: "c", Value: "liquid"}}, l), api.ErrArg)
		want(t, fmt.Sprintf("C3: dels %d", i), s.Write(nil, l), api.ErrArg)
	}
	for i, l := range [][]api.Pair{{much}, {{Key: "k", Value: long("v", 99999)}}, {good, much, good}, {{Key: "c", Value: "liquid"}, much}, {much, {Key: "k", Value: "short"}}} {
		want(t, fmt.Sprintf("C3: values %d", i), s.Write(l, []string{"a"}), api.ErrLong)
	}
	for i, l := range [][]api.Pair{
		{{Key: "c", Value: "liquid"}},
		{good, {Key: "c", Value: "liquid"}, good},
		{{Key: "c", Value: "liquid"}, {Key: "c", Value: "other"}},
		{{Key: "c", Value: "declinate"}, {Key: "d", Value: "macallums"}},
		{{Key: "c", Value: "declinate"}, {Key: "c", Value: "macallums"}},
		{{Key: "c", Value: long("z", 64) + "declinate"}, {Key: "d", Value: long("u", 128) + "macallums"}},
		{{Key: "c", Value: "declinate" + long("z", 55) + "macallums" + long("z", 55)}},
		{{Key: "c", Value: long("z", 128) + "liquid"}},
		{{Key: "costar", Value: "liquid"}},
		{{Key: "c", Value: "liquid"}, {Key: "d", Value: text(3, 30000)}},
	} {
		want(t, fmt.Sprintf("C3: collisions %d", i), s.Write(l, []string{"a", "costar"}), api.ErrCollision)
	}
	want(t, "C3: too much", s.Write([]api.Pair{{Key: "much", Value: text(3, 30000)}}, m.keys()), api.ErrNoSpace)
	if !d.Up() || len(d.Waiting()) > 0 {
		t.Error("P8.4: something was written")
	}
	m.want(t, "P8.4", s)
	d.Crash("")
	s = open(t, d)
	m.want(t, "P8.4", s)
	m = write(t, s, m, []api.Pair{{Key: "c", Value: "declinate"}, good}, []string{"a"})
	sweep(t, s, m)
}

// What is put behind both of a pair keeps its digests alike; what is cut off into another chunk does not count.
func TestCollisions(t *testing.T) {
	_, s := newStore(t, 2000)
	m := write(t, s, empty(), []api.Pair{{Key: "a", Value: "costarring" + long("-", 54)}, {Key: "b", Value: "declinate" + long("+", 55) + "b"}}, nil)
	want(t, "60 bytes", s.Write([]api.Pair{{Key: "c", Value: "liquid" + long("-", 54)}}, nil), api.ErrCollision)
	want(t, "64 bytes", s.Write([]api.Pair{{Key: "c", Value: "macallums" + long("+", 55) + "c"}}, nil), api.ErrCollision)
	m = write(t, s, m, []api.Pair{{Key: "c", Value: "liquid" + long("-", 58)}, {Key: "d", Value: "macallums" + long("+", 54)}}, nil)
	m = write(t, s, m, []api.Pair{{Key: "e", Value: "liquid"}}, nil)
	want(t, "its own", s.Write([]api.Pair{{Key: "e", Value: "costarring"}}, []string{"e"}), api.ErrCollision)
	m.want(t, "P8.4", s)
}

// A chunk that is kept, but that no value has, is in the way till a Sweep; one that was never left there is not.
func TestIdleCollides(t *testing.T) {
	d, s := newStore(t, 1000)
	liquid := []api.Pair{{Key: "b", Value: "liquid"}}
	m := write(t, s, empty(), []api.Pair{{Key: "a", Value: "costarring"}}, nil)
	m = write(t, s, m, []api.Pair{{Key: "a", Value: "other"}}, nil)
	want(t, "replaced", s.Write(liquid, nil), api.ErrCollision)
	d.Crash("")
	s = open(t, d)
	want(t, "opened", s.Write(liquid, nil), api.ErrCollision)
	m = write(t, s, m, []api.Pair{{Key: "c", Value: "costarring"}}, nil)
	m = sweep(t, s, m)
	want(t, "in use again", s.Write(liquid, nil), api.ErrCollision)
	m = write(t, s, m, nil, []string{"c"})
	m = sweep(t, s, m)
	m = write(t, s, m, liquid, nil)
	// The first one is not left there: so it is not kept.
	m = write(t, s, m, []api.Pair{{Key: "d", Value: "declinate"}, {Key: "d", Value: "d"}}, nil)
	m = write(t, s, m, []api.Pair{{Key: "d", Value: "macallums"}}, nil)
	d.Crash("")
	m.want(t, "P8.1", open(t, d))
}

// The sets come behind the dels, one by one.
func TestOrderWithinAWrite(t *testing.T) {
	d, s := newStore(t, 4000)
	m := write(t, s, empty(), []api.Pair{{Key: "a", Value: text(1, 9000)}, {Key: "a", Value: text(2, 100)}, {Key: "b", Value: "1"}, {Key: "a", Value: text(3, 70)}}, []string{"a", "c", "c"})
	if s.Chunks() != 3 {
		t.Errorf("C3: twice in sets: Chunks %d", s.Chunks())
	}
	m = write(t, s, m, []api.Pair{{Key: "a", Value: text(4, 3000)}}, []string{"a", "a", "b", "x"})
	m = write(t, s, m, []api.Pair{{Key: "a", Value: text(5, 2000)}, {Key: "a", Value: text(6, 9000)}}, []string{"a"})
	m = write(t, s, m, []api.Pair{{Key: "a", Value: ""}}, nil)
	m = write(t, s, m, []api.Pair{{Key: "a", Value: text(7, 64)}, {Key: "a", Value: ""}}, nil)
	m = write(t, s, m, nil, []string{"a"})
	m = write(t, s, m, nil, nil)
	d.Crash("")
	s = open(t, d)
	m.want(t, "P8.1", s)
	sweep(t, s, m)
}

// TestShared: chunks that stand twice in a value, and in several ones, are kept once.
func TestShared(t *testing.T) {
	_, s := newStore(t, 2000)
	m := write(t, s, empty(), []api.Pair{{Key: "a", Value: long("x", 30000)}}, nil)
	if s.Chunks() != 2 { // 468 of 64 bytes, and 48 behind
		t.Errorf("P8.2: Chunks %d", s.Chunks())
	}
	m = write(t, s, m, []api.Pair{{Key: "b", Value: text(1, 500)}}, nil)
	n := s.Chunks()
	for i := range 5 {
		m = write(t, s, m, []api.Pair{{Key: fmt.Sprint("c", i), Value: text(1, 500)}, {Key: fmt.Sprint("d", i), Value: long("x", 30000)}}, nil)
	}
	if s.Chunks() != n {
		t.Errorf("P8.6: Chunks %d of %d", s.Chunks(), n)
	}
	m = write(t, s, m, nil, []string{"a", "b", "c0", "c1", "c2", "d0"})
	m = sweep(t, s, m)
	if s.Chunks() != n {
		t.Errorf("P8.2: Chunks %d of %d", s.Chunks(), n)
	}
	m = write(t, s, m, nil, m.keys())
	sweep(t, s, m)
	if s.Chunks() != 0 {
		t.Errorf("P8.2: Chunks %d of an empty store", s.Chunks())
	}
}

// A Sweep of nothing changes nothing; so does a Write of what is there.
func TestNothingToDo(t *testing.T) {
	d, s := newStore(t, 300)
	m := sweep(t, s, empty())
	d, s, m = standing(t, 1000)
	m = sweep(t, s, m)
	for range 20 {
		m = sweep(t, s, m)
		m = write(t, s, m, []api.Pair{{Key: "a", Value: m.values["a"]}, {Key: "empty"}}, []string{"not there"})
		m = write(t, s, m, nil, nil)
	}
	d.Crash("")
	m.want(t, "P8.1", open(t, d))
}

// What is handed in is not changed, and not kept; what is answered is new.
func TestOwnMemory(t *testing.T) {
	_, s := newStore(t, 300)
	sets, dels := []api.Pair{{Key: "b", Value: "2"}, {Key: "a", Value: "1"}, {Key: "b", Value: "3"}}, []string{"d", "c"}
	m := write(t, s, empty(), sets, dels)
	if !slices.Equal(sets, []api.Pair{{Key: "b", Value: "2"}, {Key: "a", Value: "1"}, {Key: "b", Value: "3"}}) || !slices.Equal(dels, []string{"d", "c"}) {
		t.Errorf("R5: %q, %q", sets, dels)
	}
	clear(sets)
	m.want(t, "R5", s)
	clear(s.Keys())
	m.want(t, "R5", s)
}

// small is a store for what a lost one answers.
func small(t *testing.T) (*dev.Dev, *chunks.Store, model) {
	t.Helper()
	d, s := newStore(t, 300)
	m := write(t, s, empty(), []api.Pair{{Key: "a", Value: "1"}, {Key: "b", Value: "2"}}, nil)
	return d, s, write(t, s, m, nil, []string{"a"})
}

func TestLost(t *testing.T) {
	for name, call := range map[string]func(s *chunks.Store){
		"Get":             func(s *chunks.Store) { s.Get("b") },
		"Get of no key":   func(s *chunks.Store) { s.Get("") },
		"Keys":            func(s *chunks.Store) { s.Keys() },
		"Write":           func(s *chunks.Store) { s.Write(nil, nil) },
		"Write, refused":  func(s *chunks.Store) { s.Write(nil, []string{""}) },
		"Sweep":           func(s *chunks.Store) { s.Sweep() },
		"Chunks":          func(s *chunks.Store) { s.Chunks() },
		"Dev":             func(s *chunks.Store) { s.Dev() },
		"Write of a pair": func(s *chunks.Store) { s.Write([]api.Pair{{Key: "c", Value: "3"}}, nil) },
	} {
		d, s, m := small(t)
		d.Fuse(0)
		call(s)
		d.Fuse(-1)
		wantLost(t, name+" while it was down", d, s)
		m.want(t, name+", opened", open(t, d))
	}
}

func TestDown(t *testing.T) {
	d, s, m := small(t)
	d.Fuse(0)
	wantLost(t, "down", d, s)
	d, s, m = small(t)
	d.Fuse(0)
	d.Fuse(-1)
	m.want(t, "no call while it was down", s)
	d.Crash("")
	wantLost(t, "crashed", d, s)
	s = open(t, d)
	m.want(t, "opened", s)
	sweep(t, s, m)
}

// steps is how many writes and syncs a call does on a device.
func steps(t *testing.T, d *dev.Dev, call func()) int {
	t.Helper()
	d.Fuse(mostSteps)
	call()
	for n := range mostSteps {
		if !d.Up() {
			return mostSteps - n
		}
		d.Sync()
	}
	t.Fatal("more steps than a call may need, or none")
	return 0
}

// A call that answers OK loses nothing, also where its last write burnt the fuse; one that answers ErrDown does.
func TestTheLastStep(t *testing.T) {
	for name, x := range map[string]struct {
		do     func(s *chunks.Store) api.Errno
		behind func(m model) model
	}{
		"Write": {
			func(s *chunks.Store) api.Errno { return s.Write([]api.Pair{{Key: "c", Value: text(1, 300)}}, nil) },
			func(m model) model { return m.behind([]api.Pair{{Key: "c", Value: text(1, 300)}}, nil) },
		},
		"Sweep": {
			func(s *chunks.Store) api.Errno { _, e := s.Sweep(); return e },
			func(m model) model { return m.swept() },
		},
	} {
		d, s, m := small(t)
		c := d.Copy()
		y := open(t, c)
		n := steps(t, c, func() { x.do(y) })
		d.Fuse(n)
		want(t, name, x.do(s), api.OK)
		if d.Up() {
			t.Fatal("the fuse is not burnt")
		}
		d.Fuse(-1)
		x.behind(m).want(t, name+": burnt by the last write", s)
		d, s, _ = small(t)
		d.Fuse(n - 1)
		want(t, name, x.do(s), api.ErrDown)
		d.Fuse(-1)
		wantLost(t, name+": ErrDown on the way", d, s)
	}
}
