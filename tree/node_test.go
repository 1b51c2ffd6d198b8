package tree

import (
	"fmt"
	"math"
	"math/rand"
	"slices"
	"strings"
	"testing"

	"oxbow/api"
	"oxbow/dev"
	"oxbow/pages"
)

func TestNodeBytes(t *testing.T) {
	long := entry{key: strings.Repeat("k", 40), value: strings.Repeat("v", 120)}
	for _, n := range []node{
		{entries: []entry{{key: "a"}}},
		{entries: []entry{{key: "\x00", value: "\x00"}, {key: "\xff", value: "x"}}},
		{entries: []entry{long, {key: "l", value: strings.Repeat("v", room-greatestPair-3)}}},
		{level: 3, entries: []entry{{key: "a", value: wordOf(1)}, {key: "b", value: wordOf(2040)}}},
		{level: 1, entries: []entry{{key: strings.Repeat("k", 40), value: wordOf(0)}}},
	} {
		bytes := n.bytes()
		if len(bytes) != 1+sizeOf(n.entries) || len(bytes) > api.PageBytes {
			t.Errorf("%d bytes, the size is %d", len(bytes), sizeOf(n.entries))
		}
		got, ok := nodeOf(bytes)
		if !ok || got.level != n.level || !slices.Equal(got.entries, n.entries) {
			t.Errorf("%v is read as %v", n, got)
		}
		for end := range bytes {
			if got, ok := nodeOf(bytes[:end]); ok && 1+sizeOf(got.entries) != end {
				t.Errorf("%q is read as %v", bytes[:end], got)
			}
		}
	}
	for page := range 2048 {
		if pageOf(wordOf(page)) != page || len(wordOf(page)) != pageWord {
			t.Fatalf("page %d", page)
		}
	}
}

func TestNoNode(t *testing.T) {
	for _, bytes := range []string{
		"", "\x00", "\x01", "\x00\x00\x00", "\x00\x01", "\x00\x01a", "\x00\x01a\x01", "\x00\x02a\x00", "\x00\x01a\x02b", "\x00\x01a\x00\x01",
		"\x00\x01a\x00\x01a\x00", "\x00\x01b\x00\x01a\x00", "\x00\x01b\x00\x00\x00", // keys that don't rise
		"\x01\x01a\x01b", "\x01\x01a\x03bcd", "\x01\x01a\x00", // a child's page has two bytes
		"\x00\x29" + strings.Repeat("k", 41) + "\x00", "\x01\x29" + strings.Repeat("k", 41) + "\x02\x00\x01",
		"\x00\x01a\x79" + strings.Repeat("v", 121),
	} {
		if n, ok := nodeOf(bytes); ok {
			t.Errorf("%q is read as %v", bytes, n)
		}
	}
}

// What split makes has room on a page, and is not thin unless it is the only one.
func TestSplit(t *testing.T) {
	r := rand.New(rand.NewSource(1))
	for range 20000 {
		level := r.Intn(2)
		var l []entry
		for range r.Intn(1 + r.Intn(60)) {
			x := entry{key: strings.Repeat("k", 1+r.Intn(1+r.Intn(40))), value: wordOf(7)}
			if level == 0 {
				x.value = strings.Repeat("v", r.Intn(1+r.Intn(121)))
			}
			if r.Intn(5) == 0 {
				x.key = strings.Repeat("k", 40)
				if level == 0 {
					x.value = strings.Repeat("v", 120)
				}
			}
			l = append(l, x)
		}
		parts := split(level, l)
		var all []entry
		for _, x := range parts {
			all = append(all, x.fresh.entries...)
			if x.key != x.fresh.entries[0].key || x.fresh.level != level || len(x.value) != pageWord {
				t.Fatalf("split: %v", x)
			}
			if sizeOf(x.fresh.entries) > room || len(parts) > 1 && x.fresh.thin() {
				t.Fatalf("split: a node of %d bytes among %d", sizeOf(x.fresh.entries), len(parts))
			}
		}
		if !slices.Equal(all, l) {
			t.Fatal("split: not the same entries")
		}
	}
}

// shape walks down a tree, and fails where a node is thin, or is not as its parent says. It counts the nodes.
func shape(t *testing.T, p *pages.Pages, page, level int, top bool) int {
	t.Helper()
	n, ok := reading(p)(page)
	if !ok || !top && (n.level != level || n.thin()) || top && n.level > 0 && len(n.entries) < 2 {
		t.Fatalf("page %d: %v, level %d, %d bytes in %d entries", page, ok, n.level, sizeOf(n.entries), len(n.entries))
	}
	all := 1
	for _, x := range n.entries {
		if n.level > 0 {
			all += shape(t, p, pageOf(x.value), n.level-1, false)
		}
	}
	return all
}

// TestShape: however a tree came about, no node but the root is thin, all leaves stand equally deep, and no page is wasted. So a page has, but for the root, at least leastPairs bytes: P6.2 follows from that.
func TestShape(t *testing.T) {
	greatest := 0
	for seed := range int64(30) {
		r := rand.New(rand.NewSource(seed))
		d, _ := dev.New(8192)
		x, _ := New(d)
		keys := 10 + r.Intn(600)
		for round := range 150 {
			var sets []api.Pair
			var dels []string
			for range 1 + r.Intn(1+r.Intn(60)) {
				key := keyOf(r.Intn(keys), seed)
				if r.Intn(10) < 2+6*(round/25%2) {
					dels = append(dels, key)
				} else {
					sets = append(sets, api.Pair{Key: key, Value: strings.Repeat("v", r.Intn(1+r.Intn(121)))})
				}
			}
			if round%25 == 24 { // a span of keys goes at once
				from := r.Intn(keys)
				for n := from; n < from+keys/2; n++ {
					dels = append(dels, keyOf(n, seed))
				}
			}
			if e := x.Write(sets, dels); e != api.OK {
				t.Fatalf("B3: %d", e)
			}
			greatest = max(greatest, wantShape(t, x))
		}
	}
	if greatest < 3 {
		t.Errorf("no tree has more than %d levels", greatest)
	}
}

// keyOf is keys in one order, with all lengths, long ones mostly, so that trees are high.
func keyOf(n int, seed int64) string {
	key := fmt.Sprintf("%04d", n)
	if seed%2 == 0 {
		return key + strings.Repeat("k", 36)
	}
	return key + strings.Repeat("k", n*7%37)
}

// wantShape checks a tree's shape, and answers how many levels it has.
func wantShape(t *testing.T, x *Tree) int {
	t.Helper()
	root := x.p.Root()
	if root == 0 {
		if x.p.Free() != x.p.Size() {
			t.Fatal("P6.5: pages are wasted")
		}
		return 0
	}
	if shape(t, x.p, root, 0, true) != x.p.Size()-x.p.Free() {
		t.Fatal("P6.5: pages are wasted")
	}
	n, _ := reading(x.p)(root)
	return 1 + n.level
}

// put is nodes on the pages 1, 2, .. of a new device; the last one is the root.
func put(t *testing.T, l ...node) (*dev.Dev, *pages.Pages) {
	t.Helper()
	d, _ := dev.New(8192)
	p, _ := pages.New(d)
	var all []api.Page
	for i, n := range l {
		all = append(all, api.Page{Num: 1 + i, Bytes: n.bytes()})
	}
	if e := p.Put(all, nil, len(l)); e != api.OK {
		t.Fatalf("V5: %d", e)
	}
	return d, p
}

func leaf(keys ...string) node {
	var n node
	for _, key := range keys {
		n.entries = append(n.entries, entry{key: key, value: "v"})
	}
	return n
}

func above(level int, l ...entry) node { return node{level: level, entries: l} }

func child(key string, page int) entry { return entry{key: key, value: wordOf(page)} }

// What no tree wrote need not be told; but to go on from it would harm.
func TestFormIsTold(t *testing.T) {
	d, _ := put(t, leaf("a", "b"), leaf("c"), above(1, child("a", 1), child("c", 2)))
	if x, e := Open(d); e != api.OK || x.Len() != 3 {
		t.Fatalf("B1: %d", e)
	}
	for name, l := range map[string][]node{
		"a page more":             {leaf("z"), leaf("a")},
		"an empty node":           {{}},
		"a node above nothing":    {{level: 1}},
		"a page twice":            {leaf("a"), above(1, child("a", 1), child("b", 1))},
		"itself":                  {above(1, child("a", 1))},
		"no page":                 {above(1, child("a", 0))},
		"a free page":             {leaf("a"), above(1, child("a", 1), child("b", 9))},
		"a page far behind":       {leaf("a"), above(1, child("a", 1), child("b", 65535))},
		"a level left out":        {leaf("a"), above(2, child("a", 1))},
		"another least key":       {leaf("b"), above(1, child("a", 1))},
		"leaves across":           {leaf("a", "d"), leaf("c"), above(1, child("a", 1), child("c", 2))},
		"leaves that touch":       {leaf("a", "c"), leaf("c"), above(1, child("a", 1), child("c", 2))},
		"keys that do not rise":   {leaf("b", "a")},
		"leaves not equally deep": {leaf("a"), leaf("c"), above(1, child("a", 1)), above(2, child("a", 3), child("c", 2))},
	} {
		d, _ := put(t, l...)
		if x, e := Open(d); x != nil || e != api.ErrTreeForm {
			t.Errorf("B1: %s: %d", name, e)
		}
	}
	d, p := put(t, leaf("a"))
	p.Put(nil, nil, 0)
	if x, e := Open(d); x != nil || e != api.ErrTreeForm {
		t.Errorf("B1: no root: %d", e)
	}
}

// TestKnot: nodes that lead to one another many times would be gone through for ever, if they were believed.
func TestKnot(t *testing.T) {
	knot := []node{leaf("a")}
	for level := 1; level < 250; level++ {
		var l []entry
		for i := range 40 {
			l = append(l, child(string(rune('a'+i)), level))
		}
		knot = append(knot, above(level, l...))
	}
	_, p := put(t, knot...)
	x := &Tree{p: p, pairs: 1}
	v := x.View()
	for _, key := range []string{"", "a", "b", "z"} {
		x.Get(key)
		v.Get(key)
		if l := x.Scan(key, math.MaxInt); len(l) > 1 {
			t.Errorf("Scan(%q): %d pairs", key, len(l))
		}
	}
	x.Write([]api.Pair{{Key: "b", Value: "1"}, {Key: "zz", Value: "2"}}, []string{"a"})
	x.Write(nil, []string{"a", "b", "c", "zz"})
}
