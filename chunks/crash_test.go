package chunks_test

import (
	"fmt"
	"math/rand"
	"slices"
	"testing"

	"oxbow/api"
	"oxbow/chunks"
	"oxbow/dev"
)

// masks are what a crash lets survive: nothing, all, each second sector, and some.
func masks(r *rand.Rand, waiting int) []string {
	l := []string{"", long("\x01", waiting), long("\x01\x00", waiting), long("\x00\x01", waiting)}
	for range 4 {
		b := make([]byte, waiting)
		r.Read(b)
		l = append(l, string(b))
	}
	return l
}

// everyPoint does a call with a fuse of every number ahead of it, on copies of a device, and has each one looked at that is left behind: crashed in several ways, and not crashed.
func everyPoint(t *testing.T, name string, d *dev.Dev, do func(s *chunks.Store) api.Errno, look func(what string, d *dev.Dev, e api.Errno)) {
	t.Helper()
	r := rand.New(rand.NewSource(5))
	c := d.Copy()
	s := open(t, c)
	n := steps(t, c, func() { want(t, name, do(s), api.OK) })
	for fuse := range n + 1 {
		cut := d.Copy()
		s := open(t, cut)
		cut.Fuse(fuse)
		e := do(s)
		if e != api.OK && (e != api.ErrDown || fuse >= n) || e == api.OK && fuse < n {
			t.Fatalf("%s: fuse %d of %d: %d", name, fuse, n, e)
		}
		for _, mask := range masks(r, len(cut.Waiting())) {
			c := cut.Copy()
			c.Crash(mask)
			look(fmt.Sprintf("%s: fuse %d of %d, %x survives", name, fuse, n, mask), c, e)
		}
		cut.Fuse(-1)
		look(fmt.Sprintf("%s: fuse %d of %d, without a crash", name, fuse, n), cut, e)
	}
}

// TestEveryPointOfWrite: an Open finds all of a Write, or nothing of it.
func TestEveryPointOfWrite(t *testing.T) {
	d, _, m := standing(t, 600)
	for name, x := range map[string]struct {
		sets []api.Pair
		dels []string
	}{
		"one pair":      {[]api.Pair{{Key: "new", Value: "new"}}, nil},
		"one key":       {[]api.Pair{{Key: "new", Value: m.values["a"]}}, nil},
		"one gone":      {nil, []string{"b"}},
		"longer":        {[]api.Pair{{Key: "empty", Value: text(7, 2000)}}, nil},
		"shorter":       {[]api.Pair{{Key: "a"}, {Key: long("k", 30), Value: "short"}}, []string{"costar"}},
		"all gone":      {nil, m.keys()},
		"all anew":      {[]api.Pair{{Key: "b", Value: text(8, 700)}, {Key: "c", Value: text(8, 700)}, {Key: "d"}}, m.keys()},
		"an idle chunk": {[]api.Pair{{Key: "back", Value: text(1, 200)}}, nil},
	} {
		after := m.behind(x.sets, x.dels)
		found := map[bool]int{}
		everyPoint(t, name, d, func(s *chunks.Store) api.Errno { return s.Write(x.sets, x.dels) }, func(what string, d *dev.Dev, e api.Errno) {
			t.Helper()
			s := open(t, d)
			ahead := e != api.OK && m.differs(s) == ""
			found[ahead]++
			if ahead {
				m.want(t, "P8.1: "+what, s)
				sweep(t, s, m)
			} else {
				after.want(t, "P8.1: "+what, s)
				sweep(t, s, after)
			}
		})
		if found[true] == 0 || found[false] == 0 {
			t.Errorf("%s: what is found: %v", name, found)
		}
	}
}

// TestEveryPointOfSweep: all keys and values stay, and the chunks that they need.
func TestEveryPointOfSweep(t *testing.T) {
	for _, sectors := range []int{600, 150} {
		d, s, m := standing(t, sectors)
		if sectors < 256 {
			m = tight(t, s, m)
		}
		found := map[int]int{}
		everyPoint(t, fmt.Sprint("Sweep on ", sectors), d, func(s *chunks.Store) api.Errno { _, e := s.Sweep(); return e }, func(what string, d *dev.Dev, e api.Errno) {
			t.Helper()
			s := open(t, d)
			n := wantBetween(t, "P8.5: "+what, s, m)
			found[n]++
			if e == api.OK && n != len(m.swept().kept) {
				t.Fatalf("P8.1: %s: Chunks %d", what, n)
			}
			if gone, e := s.Sweep(); e != api.OK || gone != n-len(m.swept().kept) {
				t.Fatalf("C4: %s: swept again: %d, %d", what, gone, e)
			}
			m.swept().want(t, "P8.2: "+what, s)
		})
		if found[len(m.kept)] == 0 || found[len(m.swept().kept)] == 0 || sectors < 256 && len(found) < 3 {
			t.Errorf("%d sectors: how many chunks are found: %v", sectors, found)
		}
	}
}

// tight fills a store till there is too little room for a Sweep to be done at once.
func tight(t *testing.T, s *chunks.Store, m model) model {
	t.Helper()
	var keys []string
	for i := 0; ; i++ {
		x := api.Pair{Key: fmt.Sprint("t", i), Value: text(int64(100+i), 64)}
		if e := s.Write([]api.Pair{x}, nil); e != api.OK {
			want(t, "tight", e, api.ErrNoSpace)
			break
		}
		m = m.behind([]api.Pair{x}, nil)
		keys = append(keys, x.Key)
	}
	for i, key := range keys {
		if i%3 == 0 {
			m = write(t, s, m, nil, []string{key})
		}
	}
	return m
}

// TestCrashes: Writes and Sweeps one behind the other, each of which may be cut off.
func TestCrashes(t *testing.T) {
	cutOff := 0
	for seed := range int64(30) {
		r := rand.New(rand.NewSource(seed))
		d, s := newStore(t, 3000)
		m := empty()
		for range 60 {
			if r.Intn(5) == 0 {
				m = sweep(t, s, m)
			}
			sets, dels := anyWrite(r)
			if m.collides(sets) {
				sets = nil
			}
			if r.Intn(2) == 0 {
				d.Fuse(r.Intn(1 + r.Intn(90)))
			}
			after := m.behind(sets, dels)
			e := s.Write(sets, dels)
			if e != api.OK && (e != api.ErrDown || d.Up()) {
				t.Fatalf("C3: %d", e)
			}
			mask := make([]byte, r.Intn(40))
			r.Read(mask)
			d.Crash(string(mask))
			s = open(t, d)
			if e != api.OK && m.differs(s) == "" {
				after = m
				cutOff++
			}
			after.want(t, "P8.1", s)
			m = after
		}
	}
	if cutOff < 100 {
		t.Errorf("only %d Writes were cut off", cutOff)
	}
}

// TestOpenCutOff: an Open that goes down on the way answers ErrDown, and the one behind it finds the same.
func TestOpenCutOff(t *testing.T) {
	d, s, m := standing(t, 600)
	sets := []api.Pair{{Key: "new", Value: text(9, 100)}}
	c := d.Copy()
	y := open(t, c)
	n := steps(t, c, func() { y.Write(sets, nil) })
	d.Fuse(n - 2)
	want(t, "Write", s.Write(sets, nil), api.ErrDown)
	d.Crash("")
	if m.differs(open(t, d.Copy())) != "" {
		m = m.behind(sets, nil)
	}
	cut := 0
	for fuse := range mostSteps {
		c := d.Copy()
		c.Fuse(fuse)
		s, e := chunks.Open(c)
		if e == api.OK {
			c.Fuse(-1)
			m.want(t, "C1", s)
			break
		}
		if s != nil || e != api.ErrDown {
			t.Fatalf("C1: fuse %d: %d", fuse, e)
		}
		cut++
		c.Crash("\x01")
		m.want(t, "P8.1", open(t, c))
	}
	if cut < 2 {
		t.Errorf("C1: only %d Opens were cut off", cut)
	}
}

// TestStrangeDevices: whatever comes to stand on a device, calls end, and none panics.
func TestStrangeDevices(t *testing.T) {
	d, _, _ := standing(t, 256)
	for seed := range int64(800) {
		r := rand.New(rand.NewSource(seed))
		c := d.Copy()
		s := open(t, c)
		for range 1 + r.Intn(6) {
			at := r.Intn(100)
			b, _ := c.Read(at)
			if r.Intn(2) == 0 {
				b, _ = c.Read(r.Intn(100))
			}
			bytes := []byte(b)
			for range r.Intn(5) {
				bytes[r.Intn(64)] = byte(r.Intn(256) >> r.Intn(8))
			}
			c.Write(at, string(bytes))
		}
		again := c.Copy()
		useAll(r, s)
		y, e := chunks.Open(again)
		if y == nil {
			want(t, "C1", e, api.ErrChunksForm)
			continue
		}
		useAll(r, y)
	}
}

// TestTwoStores: two stores on one device know nothing of one another, but all calls end.
func TestTwoStores(t *testing.T) {
	for seed := range int64(60) {
		r := rand.New(rand.NewSource(seed))
		d, s, _ := standing(t, 400)
		y := open(t, d)
		for range 6 {
			useAll(r, s)
			useAll(r, y)
		}
	}
}

func useAll(r *rand.Rand, s *chunks.Store) {
	s.Write(anyWrite(r))
	keys := s.Keys()
	for _, key := range slices.Concat(keys, []string{"", "a", long("k", 30)}) {
		s.Get(key)
	}
	s.Chunks()
	s.Sweep()
	s.Write(nil, keys)
	s.Sweep()
}
