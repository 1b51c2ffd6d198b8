package chunks_test

import (
	"fmt"
	"math/rand"
	"testing"

	"oxbow/api"
	"oxbow/chunks"
)

// fill fills a store as far as P8.3 goes, with values of a size, under keys of 30 bytes; what is left over the last one takes.
func fill(t *testing.T, s *chunks.Store, m model, sectors, size, many int) model {
	t.Helper()
	var sets []api.Pair
	for n := 0; m.behind(sets, nil).size()+200 <= sectors; n++ {
		size := min(size, sectors-m.behind(sets, nil).size()-200)
		sets = append(sets, api.Pair{Key: fmt.Sprintf("%030d", n*7919%100000), Value: text(int64(n), size)})
		if len(sets) == many {
			m = write(t, s, m, sets, nil)
			sets = nil
		}
	}
	return write(t, s, m, sets, nil)
}

// TestRoom: devices filled as far as P8.3 goes, by values of all kinds, one by one and at once; emptied, and filled once more.
func TestRoom(t *testing.T) {
	for _, sectors := range []int{256, 257, 263, 264, 265, 300, 400, 401, 520, 1000, 3000, 8192} {
		for _, size := range []int{0, 1, 56, 63, 64, 65, 129, 1920, 7992} {
			for _, many := range []int{1, 7, 1000} {
				_, s := newStore(t, sectors)
				m := fill(t, s, empty(), sectors, size, many)
				if sectors-m.size() >= 200 {
					t.Fatalf("only %d of %d are filled", m.size(), sectors)
				}
				keys := m.keys()
				m = write(t, s, m, nil, keys[:len(keys)/2])
				m = sweep(t, s, m)
				m = fill(t, s, m, sectors, size+3, many)
				m = write(t, s, m, nil, m.keys())
				m = sweep(t, s, m)
				fill(t, s, m, sectors, size, many)
			}
		}
	}
}

// TestRoomForIdle: chunks that no value has, as many as P8.3 counts.
func TestRoomForIdle(t *testing.T) {
	for _, sectors := range []int{256, 300, 400, 464, 1000, 8192} {
		d, s := newStore(t, sectors)
		m, n := empty(), 0
		for ; m.size()+264 <= sectors; n++ {
			m = write(t, s, m, []api.Pair{{Key: long("k", 30), Value: text(int64(n), 64)}}, nil)
			m = write(t, s, m, nil, []string{long("k", 30)})
		}
		if m.idle() != n || n == 0 && sectors >= 264 {
			t.Fatalf("%d idle chunks behind %d Writes", m.idle(), n)
		}
		d.Crash("")
		s = open(t, d)
		m.want(t, "P8.1", s)
		m = fill(t, s, m, sectors, 1, 1)
		sweep(t, s, m)
	}
}

// some are values that share chunks, and some whose chunks have one digest.
func some(r *rand.Rand) string {
	switch r.Intn(8) {
	case 0:
		return []string{"costarring", "liquid", "declinate", "macallums", "liquid."}[r.Intn(5)]
	case 1:
		return long("x", 64*r.Intn(4)) + []string{"declinate", "macallums"}[r.Intn(2)] + long("-", r.Intn(3)*55)
	case 2:
		return long("x", r.Intn(300))
	case 3:
		return ""
	case 4:
		return text(int64(r.Intn(9)), 64*r.Intn(9))
	case 5:
		return text(int64(r.Intn(9)), 2500)[:r.Intn(2500)]
	}
	return text(r.Int63(), r.Intn(200))
}

func anyWrite(r *rand.Rand) ([]api.Pair, []string) {
	key := func() string {
		n := r.Intn(12)
		return fmt.Sprint("k", n) + long("-", n%2*27)
	}
	var sets []api.Pair
	var dels []string
	for range r.Intn(4) {
		sets = append(sets, api.Pair{Key: key(), Value: some(r)})
	}
	for range r.Intn(4) {
		dels = append(dels, key())
	}
	return sets, dels
}

// try writes to a store, and is the model behind; ErrNoSpace must not be, where P8.3 says so.
func try(t *testing.T, s *chunks.Store, m model, sets []api.Pair, dels []string) (model, api.Errno) {
	t.Helper()
	sectors := s.Dev().Sectors()
	e, after := s.Write(sets, dels), m.behind(sets, dels)
	if m.collides(sets) != (e == api.ErrCollision) || e != api.OK && e != api.ErrCollision && e != api.ErrNoSpace {
		t.Fatalf("C3: %d, collides %v", e, m.collides(sets))
	}
	if e == api.ErrNoSpace && sectors >= 256 && m.size() <= sectors && after.size() <= sectors {
		t.Fatalf("P8.3: %d sectors, %d ahead, %d behind", sectors, m.size(), after.size())
	}
	if e != api.OK {
		return m, e
	}
	return after, e
}

// TestWalk: many Writes and Sweeps of all kinds, and crashes, against a plain map.
func TestWalk(t *testing.T) {
	met := map[api.Errno]int{}
	for seed := range int64(60) {
		r := rand.New(rand.NewSource(seed))
		d, s := newStore(t, []int{60, 256, 1000, 2500, 8192}[seed%5])
		m := empty()
		for range 120 {
			sets, dels := anyWrite(r)
			var e api.Errno
			m, e = try(t, s, m, sets, dels)
			met[e]++
			m.want(t, "walk", s)
			if r.Intn(6) == 0 && d.Sectors() >= 256 {
				m = sweep(t, s, m)
			}
			if r.Intn(9) == 0 {
				d.Crash("\x01\x01")
				s = open(t, d)
				m.want(t, "walk, opened", s)
			}
		}
	}
	for _, e := range []api.Errno{api.OK, api.ErrCollision, api.ErrNoSpace} {
		if met[e] < 50 {
			t.Errorf("%d was answered only %d times", e, met[e])
		}
	}
}

// TestTight: devices that are too small for P8.3: Writes and Sweeps that have no room leave all keys and values.
func TestTight(t *testing.T) {
	ends := map[api.Errno]int{}
	for seed := range int64(300) {
		r := rand.New(rand.NewSource(seed))
		d, s := newStore(t, 41+r.Intn(60))
		m := empty()
		for range 40 {
			sets, dels := anyWrite(r)
			for i := range sets {
				sets[i].Value = sets[i].Value[:min(len(sets[i].Value), 150)]
			}
			m, _ = try(t, s, m, sets, dels)
			m.want(t, "P8.4", s)
			if r.Intn(4) > 0 {
				continue
			}
			n, e := s.Sweep()
			ends[e]++
			if e == api.OK && n == m.idle() {
				m = m.swept()
			} else if e != api.ErrNoSpace || n != 0 {
				t.Fatalf("C4: Sweep: %d, %d, want %d", n, e, m.idle())
			}
			left := wantBetween(t, "C4", s, m)
			d.Crash("")
			s = open(t, d)
			if n := wantBetween(t, "P8.1", s, m); n != left {
				t.Fatalf("P8.1: Chunks %d of %d", n, left)
			}
			if left < len(m.kept) {
				break // which ones are gone nobody tells
			}
		}
	}
	if ends[api.OK] == 0 || ends[api.ErrNoSpace] == 0 {
		t.Errorf("how Sweeps ended: %v", ends)
	}
}

// wantBetween: behind a Sweep that may have had no end a store has all keys and values, and some of the chunks that no value has. It is how many chunks are left.
func wantBetween(t *testing.T, what string, s *chunks.Store, m model) int {
	t.Helper()
	if x := m.differs(s); x != "" {
		t.Fatalf("%s: %s", what, x)
	}
	n := s.Chunks()
	if least := len(m.swept().kept); n < least || n > len(m.kept) {
		t.Fatalf("%s: Chunks %d, not %d to %d", what, n, least, len(m.kept))
	}
	return n
}

// TestSweepWithLittleRoom: where all idle chunks can't go at once, they go one behind the other.
func TestSweepWithLittleRoom(t *testing.T) {
	for _, sectors := range []int{100, 150, 256, 300} {
		d, s := newStore(t, sectors)
		var sets []api.Pair
		for i := 0; ; i++ {
			sets = append(sets, api.Pair{Key: fmt.Sprint("k", i), Value: text(int64(i), 64)})
			c := open(t, d.Copy())
			if e := c.Write(sets, nil); e != api.OK {
				want(t, "too much", e, api.ErrNoSpace)
				break
			}
		}
		// One pair is left out of ten, so that there is room to write a page anew.
		sets = sets[:len(sets)*9/10]
		m := write(t, s, empty(), sets, nil)
		for i := range sets {
			if i%2 == 0 {
				m = write(t, s, m, nil, []string{sets[i].Key})
			}
		}
		if m.idle() < 3 {
			t.Fatalf("%d sectors: only %d idle chunks", sectors, m.idle())
		}
		sweep(t, s, m)
		d.Crash("")
		m.swept().want(t, "P8.1", open(t, d))
	}
}
