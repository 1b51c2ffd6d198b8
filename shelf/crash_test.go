package shelf_test

import (
	"fmt"
	"math/rand"
	"slices"
	"strings"
	"testing"

	"oxbow/api"
	"oxbow/dev"
	"oxbow/shelf"
)

// masks are what may survive of n sectors that wait: all that there are, if these are few; else none, all, each one alone, each one not, each second one, and some.
func masks(n int) []string {
	var l []string
	if n <= 5 {
		for bits := range 1 << n {
			b := make([]byte, n)
			for i := range b {
				b[i] = byte(bits>>i) & 1
			}
			l = append(l, string(b))
		}
		return l
	}
	all := strings.Repeat("\x01", n)
	l = append(l, "", all, strings.Repeat("\x01\x00", n), strings.Repeat("\x00\x01", n))
	for i := range n {
		l = append(l, strings.Repeat("\x00", i)+"\x01", all[:i]+"\x00"+all[i+1:])
	}
	for seed := range int64(4) {
		l = append(l, word(seed, n))
	}
	return l
}

// few are some of the masks.
func few(n int) []string {
	return []string{"", strings.Repeat("\x01", n), strings.Repeat("\x01\x00", n), strings.Repeat("\x00\x01", n), word(int64(n), n)}
}

// hold is what P18.1 lets an Open find.
type hold struct {
	last  string // of the last Put that answered OK
	under string // of the one under way
	cut   bool   // whether one was under way
}

// behind is what may be found behind a Put that answered e.
func (h hold) behind(text string, e api.Errno) hold {
	if e == api.OK {
		return hold{last: text}
	}
	return hold{last: h.last, under: text, cut: true}
}

// found holds what a shelf has against P18.1, and is what may be found from then on: just that.
func (h hold) found(t *testing.T, what string, s *shelf.Shelf) hold {
	t.Helper()
	text := s.Get()
	if text != h.last && !(h.cut && text == h.under) {
		t.Fatalf("P18.1: %s: %.20q (%d bytes), neither %.20q nor %.20q", what, text, len(text), h.last, h.under)
	}
	return hold{last: text}
}

// cutPut does a Put on a copy of a device with a fuse ahead of it, and answers the copy as that leaves it.
func cutPut(t *testing.T, d *dev.Dev, fuse int, text string) (*dev.Dev, api.Errno) {
	t.Helper()
	c := d.Copy()
	s := open(t, c)
	c.Fuse(fuse)
	e := s.Put(text)
	if e != api.OK && (e != api.ErrDown || c.Up()) {
		t.Fatalf("S4: fuse %d: %d", fuse, e)
	}
	return c, e
}

// pairs are texts that stand, and texts that are put in their places, for a device with so much room.
func pairs(room int) [][2]string {
	long, other := word(1, room), word(2, room)
	return [][2]string{
		{"", ""}, {"", "a"}, {"a", ""}, {"a", "b"}, {"a", "a"},
		{"", long}, {long, ""}, {long, other}, {long, long}, {"a", long}, {long, "a"},
		{word(3, room/2), word(4, room/3)}, {word(3, room/3), word(4, room/2)},
		{strings.Repeat("\x00", room), long}, {long, strings.Repeat("\x00", room)}, {"\x01", strings.Repeat("\x01", room)},
	}
}

// stands is a device on whose shelf a text stands, behind so many others.
func stands(t *testing.T, sectors int, others int, text string) *dev.Dev {
	t.Helper()
	d, s := newShelf(t, sectors)
	for i := range others {
		put(t, s, word(int64(100+i), s.Room()-i))
	}
	if text != "" || others > 0 {
		put(t, s, text)
	}
	return d
}

// TestEveryPoint: a fuse of every number ahead of a Put, whatever survives: the text is wholly there, or wholly absent; the Put behind that goes.
func TestEveryPoint(t *testing.T) {
	for _, sectors := range []int{8, 9, 10, 17, 30} {
		_, s := newShelf(t, sectors)
		for i, x := range pairs(s.Room()) {
			d := stands(t, sectors, i%3, x[0])
			n := steps(t, d, x[1])
			outcome := map[string]int{}
			for fuse := range n + 2 {
				cut, e := cutPut(t, d, fuse, x[1])
				if (e == api.OK) != (fuse >= n) {
					t.Fatalf("S4: fuse %d of %d: %d", fuse, n, e)
				}
				h := hold{last: x[0]}.behind(x[1], e)
				for _, mask := range masks(len(cut.Waiting())) {
					what := fmt.Sprintf("%d sectors, texts %d, fuse %d of %d, %x survives", sectors, i, fuse, n, mask)
					c := cut.Copy()
					c.Crash(mask)
					s := open(t, c)
					got := h.found(t, what, s)
					outcome[got.last]++
					wantSafe(t, "P18.3: "+what, c, got.last)
					put(t, s, "behind it")
					wantSafe(t, what, c, "behind it")
				}
			}
			if outcome[x[0]] == 0 || outcome[x[1]] == 0 {
				t.Errorf("P18.4: %d sectors, texts %d: of the old and the new text one was never found", sectors, i)
			}
		}
	}
}

// TestUpWithoutACrash: a device may come up again with all that waits still waiting. What an Open then finds stays, whatever crashes behind it let survive; so it does behind a Put that is cut off there.
func TestUpWithoutACrash(t *testing.T) {
	old, text := word(1, 150), word(2, 210)
	d := stands(t, 16, 1, old)
	n := steps(t, d, text)
	for fuse := range n + 1 {
		up, e := cutPut(t, d, fuse, text)
		up.Fuse(-1)
		h := hold{last: old}.behind(text, e)
		for _, mask := range masks(len(up.Waiting())) {
			what := fmt.Sprintf("fuse %d of %d, up without a crash", fuse, n)
			c := up.Copy()
			got := h.found(t, what, open(t, c))
			c.Crash(mask)
			wantText(t, fmt.Sprintf("P18.3: %s, %x survives", what, mask), open(t, c), got.last)
		}
		m := steps(t, up, old)
		for fuse := range m + 1 {
			c := up.Copy()
			s := open(t, c)
			got := h.found(t, "up without a crash", s)
			c.Fuse(fuse)
			got = got.behind("third", s.Put("third"))
			for _, mask := range few(len(c.Waiting())) {
				c := c.Copy()
				c.Crash(mask)
				got.found(t, fmt.Sprintf("a second Put, fuse %d of %d", fuse, m), open(t, c))
			}
		}
	}
}

// TestEveryPointOfAnOpen: Opens with a fuse of every number, with or without a crash ahead, whatever survives them, one behind the other, change nothing of what is found.
func TestEveryPointOfAnOpen(t *testing.T) {
	old, text := word(1, 150), word(2, 210)
	d := stands(t, 16, 2, old)
	n := steps(t, d, text)
	cutOff := 0
	for fuse := range n + 1 {
		cut, e := cutPut(t, d, fuse, text)
		h := hold{last: old}.behind(text, e)
		for _, mask := range masks(len(cut.Waiting())) {
			c := cut.Copy()
			c.Crash(mask)
			got := h.found(t, "crashed", open(t, c.Copy()))
			for again := range 6 {
				c.Fuse(again)
				s, e := shelf.Open(c)
				if e != api.OK && (s != nil || e != api.ErrDown || c.Up()) {
					t.Fatalf("S2: fuse %d: %d", again, e)
				}
				if e == api.OK {
					wantText(t, "P18.3: opened with a fuse", s, got.last)
				} else {
					cutOff++
				}
				c.Crash(few(len(c.Waiting()))[again%5])
				wantText(t, "P18.3", open(t, c.Copy()), got.last)
			}
		}
		for again := range 4 {
			c := cut.Copy()
			c.Fuse(again)
			s, e := shelf.Open(c)
			if e != api.OK && (s != nil || e != api.ErrDown || c.Up()) {
				t.Fatalf("S2: without a crash, fuse %d: %d", again, e)
			}
			got := h
			if e == api.OK {
				got = h.found(t, "without a crash", s)
			} else {
				cutOff++
			}
			for _, mask := range few(len(c.Waiting())) {
				c := c.Copy()
				c.Crash(mask)
				got.found(t, fmt.Sprintf("P18.3: an Open with a fuse of %d, behind a Put with one of %d", again, fuse), open(t, c))
			}
		}
	}
	if cutOff == 0 {
		t.Error("S2: no Open was cut off")
	}
}

// TestOneBehindTheOther: a Put that was cut off has no part in what a later one leaves that is cut off, too.
func TestOneBehindTheOther(t *testing.T) {
	texts := []string{word(1, 150), word(2, 190), word(3, 100), word(4, 192)}
	var deeper func(d *dev.Dev, h hold, texts []string)
	deeper = func(d *dev.Dev, h hold, texts []string) {
		if len(texts) == 0 {
			return
		}
		n := steps(t, d, texts[0])
		for fuse := range n + 1 {
			cut, e := cutPut(t, d, fuse, texts[0])
			left := h.behind(texts[0], e)
			for _, mask := range few(len(cut.Waiting())) {
				c := cut.Copy()
				c.Crash(mask)
				deeper(c, left.found(t, "one behind the other", open(t, c)), texts[1:])
			}
		}
	}
	deeper(stands(t, 8, 1, texts[0]), hold{last: texts[0]}, texts[1:])
}

// TestGreatTexts: on devices of all sizes, texts as long as they may be; fuses at the beginning, on the way and at the end.
func TestGreatTexts(t *testing.T) {
	for _, sectors := range []int{500, 1259, 1260, 8192} {
		_, s := newShelf(t, sectors)
		old, text := word(1, s.Room()), word(2, s.Room())
		d := stands(t, sectors, 0, old)
		n := steps(t, d, text)
		for _, fuse := range []int{0, 1, 2, n / 2, n - 5, n - 4, n - 3, n - 2, n - 1, n} {
			cut, e := cutPut(t, d, fuse, text)
			h := hold{last: old}.behind(text, e)
			for _, mask := range few(len(cut.Waiting())) {
				c := cut.Copy()
				c.Crash(mask)
				s := open(t, c)
				h.found(t, fmt.Sprintf("%d sectors, fuse %d of %d", sectors, fuse, n), s)
				put(t, s, old)
			}
		}
	}
}

// TestTwoShelvesOfOne: of two shelves on one device, the one that is not lost goes on, whatever the other one left there.
func TestTwoShelvesOfOne(t *testing.T) {
	old, text, third := word(1, 150), word(2, 190), word(3, 130)
	d := stands(t, 8, 0, old)
	n := steps(t, d, text)
	for fuse := range n + 1 {
		for again := range n + 3 {
			c := d.Copy()
			s, y := open(t, c), open(t, c)
			c.Fuse(fuse)
			e := s.Put(text)
			c.Fuse(again)
			f := y.Put(third)
			may := []string{third}
			if f != api.OK {
				may = append(may, text)
			}
			if f != api.OK && e != api.OK {
				may = append(may, old)
			}
			for _, mask := range masks(len(c.Waiting())) {
				c := c.Copy()
				c.Crash(mask)
				if x := open(t, c).Get(); !slices.Contains(may, x) {
					t.Fatalf("P18.1: two shelves, fuses %d and %d of %d, %x survives: %.20q", fuse, again, n, mask, x)
				}
			}
		}
	}
}

// TestWalks puts, refuses, blows fuses, crashes and opens at random, and holds all that is read against S3, S4 and P18.1.
func TestWalks(t *testing.T) {
	cutOff, fresh := 0, 0
	for seed := range int64(300) {
		r := rand.New(rand.NewSource(seed))
		d, s := newShelf(t, 8+r.Intn(1+r.Intn(60)))
		h := hold{}
		room := s.Room()
		for i := range 80 {
			text := word(seed*1000+int64(i), r.Intn(room+1)>>r.Intn(5))
			if r.Intn(3) == 0 {
				d.Fuse(r.Intn(4 + len(text)/64 + 2))
			}
			e := s.Put(text)
			if e != api.OK && (e != api.ErrDown || d.Up()) {
				t.Fatalf("S4: %d", e)
			}
			h = h.behind(text, e)
			if e != api.OK {
				cutOff++
				wantLost(t, "S4: cut off", d, s)
			}
			switch {
			case r.Intn(4) == 0 && d.Up():
				want(t, "S4: too long", s.Put(strings.Repeat("x", room+1)), api.ErrNoSpace)
				wantText(t, "S3", s, text)
				d.Fuse(-1)
				continue
			case r.Intn(4) == 0:
				d.Fuse(-1)
			default:
				d.Crash(word(seed+int64(i), r.Intn(20)))
				d.Fuse(r.Intn(5) - 1)
				if _, e := shelf.Open(d); e != api.OK && e != api.ErrDown {
					t.Fatalf("S2: %d", e)
				}
				d.Crash(word(seed-int64(i), r.Intn(20)))
			}
			s = open(t, d)
			h = h.found(t, "a walk", s)
			if e != api.OK && h.last == text {
				fresh++
			}
		}
	}
	if cutOff < 1000 || fresh < 100 {
		t.Errorf("%d Puts were cut off, %d of them found", cutOff, fresh)
	}
}
