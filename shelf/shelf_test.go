package shelf_test

import (
	"fmt"
	"math/rand"
	"slices"
	"strings"
	"testing"
	"unsafe"

	"oxbow/api"
	"oxbow/dev"
	"oxbow/shelf"
	"oxbow/tree"
	"oxbow/wal"
)

// mostSteps is more than any Put or Open writes and syncs.
const mostSteps = 9000

func full(s string) string { return strings.Repeat(s, api.Sector) }

var zero = full("\x00")

// word is so many bytes that are unlike for unlike seeds, no two sectors of them alike.
func word(seed int64, n int) string {
	b := make([]byte, n)
	rand.New(rand.NewSource(seed)).Read(b)
	return string(b)
}

func newDev(t *testing.T, sectors int) *dev.Dev {
	t.Helper()
	d, e := dev.New(sectors)
	if d == nil || e != api.OK {
		t.Fatalf("D1: New(%d): %d", sectors, e)
	}
	return d
}

func newShelf(t *testing.T, sectors int) (*dev.Dev, *shelf.Shelf) {
	t.Helper()
	d := newDev(t, sectors)
	s, e := shelf.New(d)
	if s == nil || e != api.OK {
		t.Fatalf("S1: New: %d", e)
	}
	return d, s
}

func open(t *testing.T, d *dev.Dev) *shelf.Shelf {
	t.Helper()
	s, e := shelf.Open(d)
	if s == nil || e != api.OK {
		t.Fatalf("S2: Open: %d", e)
	}
	return s
}

func want(t *testing.T, what string, got api.Errno, e api.Errno) {
	t.Helper()
	if got != e {
		t.Fatalf("%s: %d, want %d", what, got, e)
	}
}

func wantText(t *testing.T, what string, s *shelf.Shelf, text string) {
	t.Helper()
	if got := s.Get(); got != text {
		t.Fatalf("%s: Get: %.20q (%d bytes), want %.20q (%d bytes)", what, got, len(got), text, len(text))
	}
}

func put(t *testing.T, s *shelf.Shelf, text string) {
	t.Helper()
	want(t, fmt.Sprintf("S4: Put of %d bytes", len(text)), s.Put(text), api.OK)
	wantText(t, "S4", s, text)
}

// wantSafe: an Open finds the text, also behind a crash that lets nothing survive; the device itself is left alone.
func wantSafe(t *testing.T, what string, d *dev.Dev, text string) {
	t.Helper()
	c := d.Copy()
	c.Fuse(-1)
	wantText(t, what+", opened", open(t, c), text)
	c = d.Copy()
	c.Crash("")
	wantText(t, what+", crashed", open(t, c), text)
}

// wantLost: each call answers as a lost shelf's, whatever it is given, and changes nothing.
func wantLost(t *testing.T, what string, d *dev.Dev, s *shelf.Shelf) {
	t.Helper()
	ahead := imprint(d)
	for range 2 {
		wantText(t, what, s, "")
		if s.Room() != 0 || s.Dev() != d {
			t.Fatalf("%s: Room %d, Dev the same %v", what, s.Room(), s.Dev() == d)
		}
		for _, n := range []int{0, 1, 64, 40000, 40001} {
			want(t, fmt.Sprintf("%s: Put of %d bytes", what, n), s.Put(strings.Repeat("x", n)), api.ErrDown)
		}
	}
	if imprint(d) != ahead {
		t.Fatalf("%s: a lost shelf wrote", what)
	}
}

// imprint is all that can be told of a device's sectors, and whether it is up.
func imprint(d *dev.Dev) string {
	var b strings.Builder
	fmt.Fprint(&b, d.Waiting(), d.Up(), d.Age())
	c := d.Copy()
	c.Fuse(-1)
	for at := range c.Sectors() {
		cached, _ := c.Read(at)
		safe, _ := c.Safe(at)
		b.WriteString(cached + safe)
	}
	return b.String()
}

// left is how many writes and syncs a device's fuse still lets go.
func left(d *dev.Dev) int {
	c := d.Copy()
	n := 0
	for c.Sync() == api.OK && n < mostSteps {
		n++
	}
	return n
}

// steps is how many writes and syncs a Put takes on a copy of a device.
func steps(t *testing.T, d *dev.Dev, text string) int {
	t.Helper()
	c := d.Copy()
	s := open(t, c)
	c.Fuse(mostSteps)
	want(t, "S4: Put", s.Put(text), api.OK)
	return mostSteps - left(c)
}

func TestExamples(t *testing.T) {
	d, s := newShelf(t, 40)
	put(t, s, "a")
	d.Crash("")
	s = open(t, d)
	wantText(t, "example 1", s, "a")
	d.Fuse(1)
	want(t, "example 2: Put", s.Put("b"), api.ErrDown)
	wantText(t, "example 2", s, "")
	for _, mask := range []string{"", "\x01", "\x01\x01\x01"} {
		c := d.Copy()
		c.Crash(mask)
		if x := open(t, c).Get(); x != "a" && x != "b" {
			t.Errorf("example 2: %q", x)
		}
	}
}

func TestNewRefuses(t *testing.T) {
	if s, e := shelf.New(nil); s != nil || e != api.ErrArg {
		t.Errorf("S1: of nil: %d", e)
	}
	for _, n := range []int{8, 40} {
		for at := range n {
			d := newDev(t, n)
			d.Write(at, zero)
			if s, e := shelf.New(d); s != nil || e != api.ErrShelfForm {
				t.Errorf("S1: zeros wait for %d: %d", at, e)
			}
			d.Fuse(0)
			if s, e := shelf.New(d); s != nil || e != api.ErrDown {
				t.Errorf("S1: down, and not empty: %d", e)
			}
			d.Crash("\x01")
			if s, e := shelf.New(d); s == nil || e != api.OK {
				t.Errorf("S1: zeros are safe: %d", e)
			}
			for _, bytes := range []string{"\x01" + zero[1:], zero[1:] + "\x01"} {
				d.Write(at, bytes)
				d.Sync()
				if s, e := shelf.New(d); s != nil || e != api.ErrShelfForm {
					t.Errorf("S1: sector %d is not zeros: %d", at, e)
				}
			}
			d.Fuse(0)
			if s, e := shelf.New(d); s != nil || e != api.ErrDown {
				t.Errorf("S1: down, and not empty: %d", e)
			}
		}
		d := newDev(t, n)
		d.Fuse(0)
		if s, e := shelf.New(d); s != nil || e != api.ErrDown {
			t.Errorf("S1: down: %d", e)
		}
	}
	d, s := newShelf(t, 40)
	put(t, s, "a")
	ahead := imprint(d)
	if s, e := shelf.New(d); s != nil || e != api.ErrShelfForm || imprint(d) != ahead {
		t.Errorf("S1: of a shelf's device: %d", e)
	}
	wantText(t, "S1: refused", s, "a")
}

// TestNewWritesNothing: a New, and an Open of an empty device, write nothing, and no fuse counts them.
func TestNewWritesNothing(t *testing.T) {
	for _, n := range []int{8, 9, 10, 33, 8192} {
		d := newDev(t, n)
		ahead := imprint(d)
		d.Fuse(1)
		s, e := shelf.New(d)
		y, f := shelf.Open(d)
		if s == nil || e != api.OK || y == nil || f != api.OK {
			t.Fatalf("S1: of %d sectors: %d, %d", n, e, f)
		}
		if left(d) != 1 || imprint(d) != ahead {
			t.Errorf("S1: of %d sectors: something was written", n)
		}
		for _, s := range []*shelf.Shelf{s, y} {
			wantText(t, "S1", s, "")
			if s.Dev() != d {
				t.Errorf("S1: Dev is another one")
			}
		}
		wantSafe(t, "S2: an empty device", d, "")
	}
}

// TestRoom: of a device of every size, the same each time.
func TestRoom(t *testing.T) {
	for n := 8; n <= 8192; n++ {
		if n > 2000 && n < 8190 && n%97 != 0 {
			continue
		}
		d, s := newShelf(t, n)
		room := s.Room()
		if room < min(24*(n-8), 40000) || room > 40000 {
			t.Fatalf("S1: Room of %d sectors: %d", n, room)
		}
		if s.Room() != room || open(t, d).Room() != room {
			t.Fatalf("S1: Room of %d sectors is not the same each time", n)
		}
		if n > 40 && n%150 != 0 {
			continue
		}
		for _, text := range []string{strings.Repeat("x", room), "", "y"} {
			put(t, s, text)
			d.Crash("")
			if s = open(t, d); s.Room() != room || open(t, d).Room() != room {
				t.Fatalf("S1: Room of %d sectors behind a Put", n)
			}
		}
	}
}

func TestOpenRefuses(t *testing.T) {
	if s, e := shelf.Open(nil); s != nil || e != api.ErrArg {
		t.Errorf("S2: of nil: %d", e)
	}
	d, s := newShelf(t, 8)
	d.Fuse(0)
	if s, e := shelf.Open(d); s != nil || e != api.ErrDown {
		t.Errorf("S2: down: %d", e)
	}
	d.Fuse(-1)
	put(t, s, "a")
	for at := range 8 {
		d.Write(at, full("\xff"))
	}
	d.Fuse(0)
	if s, e := shelf.Open(d); s != nil || e != api.ErrDown {
		t.Errorf("S2: down, and not a shelf's: %d", e)
	}
}

// TestPut: texts of all lengths that matter, on devices of all sizes that do.
func TestPut(t *testing.T) {
	for _, n := range []int{8, 9, 10, 11, 12, 40, 61, 1300, 8192} {
		d, s := newShelf(t, n)
		room := s.Room()
		var texts []string
		for i, size := range []int{room, 0, 1, room - 1, 63, 64, 65, 0, 0, room, room, 127, 128, 129, room / 2, 1000, 4096, 40000} {
			if size >= 0 && size <= room {
				texts = append(texts, word(int64(i), size), strings.Repeat("\x00", size), strings.Repeat("\xff", size))
			}
		}
		for _, text := range texts {
			put(t, s, text)
			if len(d.Waiting()) > 0 {
				t.Fatalf("S4: behind a Put something waits")
			}
			wantSafe(t, "S4", d, text)
		}
	}
}

// TestManyTimes: Puts one behind the other, longer and shorter ones by turns; also such that differ in one byte.
func TestManyTimes(t *testing.T) {
	for _, n := range []int{8, 40, 200} {
		d, s := newShelf(t, n)
		r := rand.New(rand.NewSource(int64(n)))
		for i := range 300 {
			size := r.Intn(s.Room() + 1)
			if i%2 == 0 {
				size /= 8
			}
			text := word(int64(i), size)
			put(t, s, text)
			if i%3 == 0 && size > 0 {
				other := []byte(text)
				other[r.Intn(size)] ^= 1
				text = string(other)
				put(t, s, text)
			}
			wantSafe(t, "S4", d, text)
			if i%7 == 0 {
				s = open(t, d)
			}
			if i%11 == 0 {
				d.Crash(word(int64(i), 20))
				s = open(t, d)
			}
			wantText(t, "S3", s, text)
		}
	}
}

// TestRefused: what is too long is refused, changes nothing, writes nothing, and no fuse counts it.
func TestRefused(t *testing.T) {
	for _, n := range []int{8, 9, 10, 60, 8192} {
		d, s := newShelf(t, n)
		room := s.Room()
		for _, standing := range []string{"", "a", word(1, room)} {
			if standing != "" {
				put(t, s, standing)
			}
			ahead := imprint(d)
			d.Fuse(1)
			for _, size := range []int{room + 1, 40000, 40001, 50000} {
				e := api.ErrNoSpace
				if size > 40000 {
					e = api.ErrLong
				} else if size <= room {
					continue
				}
				what := fmt.Sprintf("S4: Put of %d bytes on %d sectors", size, n)
				want(t, what, s.Put(strings.Repeat("x", size)), e)
				wantText(t, what, s, standing)
				if imprint(d) != ahead || left(d) != 1 || s.Room() != room {
					t.Fatalf("P18.2: %s wrote", what)
				}
			}
			d.Fuse(-1)
			wantSafe(t, "P18.2", d, standing)
			put(t, s, standing)
		}
	}
}

// calls are all calls of a shelf.
var calls = map[string]func(s *shelf.Shelf){
	"Get":               func(s *shelf.Shelf) { s.Get() },
	"Put":               func(s *shelf.Shelf) { s.Put("x") },
	"Put of a long one": func(s *shelf.Shelf) { s.Put(strings.Repeat("x", 40001)) },
	"Room":              func(s *shelf.Shelf) { s.Room() },
	"Dev":               func(s *shelf.Shelf) { s.Dev() },
}

// TestLost: a call while the device is down loses a shelf for good; so does a crash.
func TestLost(t *testing.T) {
	for name, call := range calls {
		d, s := newShelf(t, 40)
		put(t, s, "standing")
		d.Fuse(0)
		call(s)
		// No other call may lose it.
		d.Fuse(-1)
		wantLost(t, name+" while down, up again", d, s)
		d.Fuse(0)
		wantLost(t, name+" while down, down again", d, s)
		d.Fuse(-1)
		y := open(t, d)
		wantText(t, name, y, "standing")
		put(t, y, "another")
		wantLost(t, name+", opened anew", d, s)
		wantText(t, name, y, "another")
		d.Fuse(0)
		// Nobody asks y meanwhile: a shelf that was not called is not lost.
		wantLost(t, name+", opened anew, down", d, s)
		d.Fuse(-1)
		wantText(t, name+": not called while down", y, "another")
		d.Crash("\x01")
		call(y)
		wantLost(t, name+" behind a crash", d, y)
		d.Fuse(0)
		wantLost(t, name+" behind a crash, down", d, y)
		d.Fuse(-1)
		wantLost(t, name+" behind a crash, up again", d, y)
		wantText(t, name, open(t, d), "another")
	}
	d, s := newShelf(t, 8)
	d.Fuse(0)
	wantLost(t, "down", d, s)
	_, s = newShelf(t, 8)
	s.Dev().Crash("")
	wantLost(t, "crashed, nothing being there", s.Dev(), s)
	d, s = newShelf(t, 8)
	d.Crash("")
	y := open(t, d)
	put(t, y, "y")
	wantLost(t, "crashed, another one opened", d, s)
	wantText(t, "S3", y, "y")
}

// TestLostOnTheWay: a Put that goes down on the way loses the shelf, also when the device comes up without a crash; one that answered OK does not, though it took the last of the fuse.
func TestLostOnTheWay(t *testing.T) {
	d, s := newShelf(t, 40)
	put(t, s, "standing")
	text := word(1, 200)
	n := steps(t, d, text)
	for fuse := range n {
		c := d.Copy()
		s := open(t, c)
		c.Fuse(fuse)
		want(t, fmt.Sprintf("S4: fuse %d of %d", fuse, n), s.Put(text), api.ErrDown)
		c.Fuse(-1)
		wantLost(t, fmt.Sprintf("fuse %d of %d, up again", fuse, n), c, s)
		c.Crash("")
		wantLost(t, fmt.Sprintf("fuse %d of %d, crashed", fuse, n), c, s)
	}
	for fuse := n; fuse < n+3; fuse++ {
		c := d.Copy()
		s := open(t, c)
		c.Fuse(fuse)
		want(t, fmt.Sprintf("S4: fuse %d of %d", fuse, n), s.Put(text), api.OK)
		c.Fuse(-1)
		wantText(t, "not lost", s, text)
		put(t, s, "behind it")
	}
}

// TestStrangeDevices: whatever comes to stand on a device, calls end, and none panics.
func TestStrangeDevices(t *testing.T) {
	use := func(s *shelf.Shelf) {
		for range 2 {
			s.Get()
			s.Room()
			s.Put(word(1, 100))
			s.Put("")
			s.Put(strings.Repeat("x", s.Room()))
		}
	}
	check := func(d *dev.Dev) {
		t.Helper()
		ahead := imprint(d)
		s, e := shelf.Open(d)
		if (s == nil) != (e != api.OK) || e != api.OK && e != api.ErrShelfForm {
			t.Fatalf("S2: %v, %d", s != nil, e)
		}
		if s == nil && imprint(d) != ahead {
			t.Fatalf("R3: Open of what is no shelf's wrote")
		}
		if s != nil {
			use(s)
		}
	}
	told := 0
	for seed := range int64(3000) {
		r := rand.New(rand.NewSource(seed))
		d, s := newShelf(t, 8+r.Intn(20))
		put(t, s, word(seed, r.Intn(s.Room())))
		for range 1 + r.Intn(4) {
			at := r.Intn(1 + r.Intn(d.Sectors()))
			old, _ := d.Read(at)
			b := []byte(old)
			for range 1 + r.Intn(3) {
				b[r.Intn(1+r.Intn(64))] = byte(r.Intn(256) >> r.Intn(8))
			}
			d.Write(at, string(b))
		}
		if r.Intn(2) == 0 {
			d.Sync()
		}
		if x, _ := shelf.Open(d.Copy()); x == nil {
			told++
		}
		check(d.Copy())
		use(s)
		check(d)
	}
	if told < 100 {
		t.Errorf("only %d devices were told", told)
	}
	for b := range 256 {
		d := newDev(t, 8)
		for at := range 8 {
			d.Write(at, full(string([]byte{byte(b)})))
		}
		check(d)
	}
	d := newDev(t, 400)
	w, _ := wal.New(d)
	w.Commit([]api.Write{{Sector: 0, Bytes: full("w")}})
	check(d)
	d = newDev(t, 400)
	tr, _ := tree.New(d)
	tr.Write([]api.Pair{{Key: "a", Value: "1"}}, nil)
	check(d)
}

// TestTwoDevices: shelves on two devices know nothing of one another.
func TestTwoDevices(t *testing.T) {
	d, s := newShelf(t, 40)
	f, y := newShelf(t, 12)
	put(t, s, "one")
	wantText(t, "two devices", y, "")
	put(t, y, "the other")
	wantText(t, "two devices", s, "one")
	d.Crash("")
	wantLost(t, "two devices", d, s)
	wantText(t, "two devices", y, "the other")
	put(t, y, "again")
	s = open(t, d)
	f.Fuse(1)
	put(t, s, word(1, 300))
	want(t, "two devices: Put", y.Put("cut off"), api.ErrDown)
	wantText(t, "two devices", s, word(1, 300))
	put(t, s, "")
	f.Crash("\x01\x01")
	if x := open(t, f).Get(); x != "again" && x != "cut off" {
		t.Errorf("two devices: %q", x)
	}
	c := d.Copy()
	z := open(t, c)
	put(t, z, "of the copy")
	wantText(t, "a copy", s, "")
	put(t, s, "of the first")
	wantText(t, "a copy", z, "of the copy")
}

// TestNothingIsKept: the text is as it was when it was put, and what Get answered is nobody else's.
func TestNothingIsKept(t *testing.T) {
	_, s := newShelf(t, 40)
	bytes := []byte(word(1, 100))
	text := unsafe.String(&bytes[0], len(bytes))
	put(t, s, text)
	copy(bytes, "something else")
	wantText(t, "R5: changed behind Put", s, word(1, 100))
	a, b := s.Get(), s.Get()
	if unsafe.StringData(a) == unsafe.StringData(b) {
		t.Error("R5: Get answers the same memory twice")
	}
	if slices.Contains([]string{a, b}, text) {
		t.Error("R5: Get answers what was handed in")
	}
}
