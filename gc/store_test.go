package gc_test

import (
	"fmt"
	"math/rand"
	"strings"
	"testing"

	"oxbow/api"
	"oxbow/chunks"
	"oxbow/dev"
	"oxbow/gc"
	"oxbow/record"
)

// stored is a device with a store in which a state's pairs stand.
func stored(t *testing.T, s api.State) *dev.Dev {
	t.Helper()
	d, e := dev.New(700)
	if e != api.OK {
		t.Fatalf("D1: %d", e)
	}
	k, e := chunks.New(d)
	if e != api.OK {
		t.Fatalf("C1: %d", e)
	}
	l, e := record.Pairs(s)
	if e != api.OK {
		t.Fatalf("P15.1: %d", e)
	}
	if e := k.Write(l, nil); e != api.OK {
		t.Fatalf("C3: %d", e)
	}
	return d
}

func open(t *testing.T, d *dev.Dev) *chunks.Store {
	t.Helper()
	k, e := chunks.Open(d)
	if e != api.OK {
		t.Fatalf("C1: Open: %d", e)
	}
	return k
}

// readFrom is the state whose pairs a store has.
func readFrom(t *testing.T, k *chunks.Store) api.State {
	t.Helper()
	var l []api.Pair
	for _, key := range k.Keys() {
		value, _ := k.Get(key)
		l = append(l, api.Pair{Key: key, Value: value})
	}
	s, e := record.Load(l)
	if e != api.OK {
		t.Fatalf("P21.5: Load: %d", e)
	}
	return s
}

// turn brings a store from a state to the one behind a Sweep, and sweeps it; wrote tells whether the Write was done.
func turn(t *testing.T, k *chunks.Store, s api.State, left api.State) (wrote bool, e api.Errno) {
	t.Helper()
	sets, dels, e := record.Changes(s, left)
	if e != api.OK {
		t.Fatalf("P15.2: %d", e)
	}
	if e := k.Write(sets, dels); e != api.OK {
		return false, e
	}
	_, e = k.Sweep()
	return true, e
}

// few are some of what may survive of so many sectors.
func few(r *rand.Rand, n int) []string {
	b := make([]byte, n)
	r.Read(b)
	return []string{"", strings.Repeat("\x01", n), strings.Repeat("\x01\x00", n), strings.Repeat("\x00\x01", n), string(b)}
}

// TestStored is P21.5: cut off at each write, whatever survives, and crashed behind it.
func TestStored(t *testing.T) {
	for what, x := range scenes(t) {
		r := rand.New(rand.NewSource(21))
		d := stored(t, x.s)
		left, _ := gc.Sweep(x.s)
		found := map[bool]int{}
		for fuse, done := 0, false; !done; fuse++ {
			cut := d.Copy()
			k := open(t, cut)
			cut.Fuse(fuse)
			wrote, e := turn(t, k, x.s, left)
			if e != api.OK && e != api.ErrDown {
				t.Fatalf("C3: %d", e)
			}
			done = e == api.OK
			for _, mask := range few(r, len(cut.Waiting())) {
				where := fmt.Sprintf("P21.5: %s: fuse %d, %x survives", what, fuse, mask)
				c := cut.Copy()
				c.Crash(mask)
				s := readFrom(t, open(t, c))
				if !same(s, left) && (wrote || !same(s, x.s)) {
					t.Fatalf("%s: %s", where, show(s))
				}
				found[same(s, left)]++
				if wrote, e := turn(t, open(t, c), s, left); !wrote || e != api.OK {
					t.Fatalf("%s: once more: %d", where, e)
				}
				c.Crash(mask)
				k := open(t, c)
				if s := readFrom(t, k); !same(s, left) {
					t.Fatalf("%s: once more: %s", where, show(s))
				}
				if n := piecesOf(left); k.Chunks() != n {
					t.Fatalf("%s: %d chunks, want %d", where, k.Chunks(), n)
				}
			}
		}
		if x.went > 0 && (found[true] == 0 || found[false] == 0) {
			t.Errorf("%s: of both states one was never found", what)
		}
	}
}

// piecesOf is how many unlike chunks the values of a state's pairs have.
func piecesOf(s api.State) int {
	pieces := map[string]struct{}{}
	l, _ := record.Pairs(s)
	for _, p := range l {
		for v := p.Value; v != ""; v = v[min(64, len(v)):] {
			pieces[v[:min(64, len(v))]] = struct{}{}
		}
	}
	return len(pieces)
}
