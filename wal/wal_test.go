package wal_test

import (
	"math"
	"math/rand"
	"slices"
	"strings"
	"testing"

	"oxbow/api"
	"oxbow/dev"
	"oxbow/wal"
)

func full(s string) string { return strings.Repeat(s, api.Sector) }

var zero = full("\x00")

// mostSteps is more than any Commit or Open writes and syncs.
const mostSteps = 300

// mark is bytes that are unlike for unlike numbers, and never zeros.
func mark(n int) string {
	return strings.Repeat(string([]byte{1 + byte(n%255), byte(n / 255)}), api.Sector/2)
}

func newDev(t *testing.T, sectors int) *dev.Dev {
	t.Helper()
	d, e := dev.New(sectors)
	if d == nil || e != api.OK {
		t.Fatalf("D1: New(%d): %d", sectors, e)
	}
	return d
}

func newWal(t *testing.T, d *dev.Dev) *wal.Wal {
	t.Helper()
	w, e := wal.New(d)
	if w == nil || e != api.OK {
		t.Fatalf("W1: New: %d", e)
	}
	return w
}

func open(t *testing.T, d *dev.Dev) *wal.Wal {
	t.Helper()
	w, e := wal.Open(d)
	if w == nil || e != api.OK {
		t.Fatalf("W2: Open: %d", e)
	}
	return w
}

func want(t *testing.T, what string, got api.Errno, e api.Errno) {
	t.Helper()
	if got != e {
		t.Errorf("%s: %d, want %d", what, got, e)
	}
}

func wantRead(t *testing.T, what string, w *wal.Wal, sector int, bytes string) {
	t.Helper()
	if s, e := w.Read(sector); s != bytes || e != api.OK {
		t.Errorf("%s: Read(%d) = %.4q, %d, want %.4q", what, sector, s, e, bytes)
	}
}

// wantLost: every call that has an error answers ErrDown, whatever it is given, and changes nothing.
func wantLost(t *testing.T, what string, d *dev.Dev, w *wal.Wal) {
	t.Helper()
	waiting := d.Waiting()
	for _, sector := range []int{0, -1, w.Size()} {
		if s, e := w.Read(sector); s != "" || e != api.ErrDown {
			t.Errorf("%s: Read(%d): %.4q, %d", what, sector, s, e)
		}
		for _, bytes := range []string{mark(99), ""} {
			want(t, what+": Stage", w.Stage(sector, bytes), api.ErrDown)
			want(t, what+": Commit", w.Commit(writes(bytes, sector)), api.ErrDown)
		}
	}
	want(t, what+": Commit", w.Commit(nil), api.ErrDown)
	want(t, what+": Commit", w.Commit(writes(mark(99), numbers(25)...)), api.ErrDown)
	if !slices.Equal(waiting, d.Waiting()) {
		t.Errorf("%s: a lost journal wrote", what)
	}
}

func numbers(n int) []int {
	var l []int
	for i := range n {
		l = append(l, i)
	}
	return l
}

// writes are the same bytes for each sector.
func writes(bytes string, sectors ...int) []api.Write {
	var l []api.Write
	for _, sector := range sectors {
		l = append(l, api.Write{Sector: sector, Bytes: bytes})
	}
	return l
}

// marked are bytes of its own for each sector.
func marked(from int, sectors ...int) []api.Write {
	var l []api.Write
	for i, sector := range sectors {
		l = append(l, api.Write{Sector: sector, Bytes: mark(from + i)})
	}
	return l
}

func home(t *testing.T, w *wal.Wal) []string {
	t.Helper()
	var l []string
	for sector := range w.Size() {
		s, e := w.Read(sector)
		if e != api.OK || len(s) != api.Sector {
			t.Fatalf("W3: Read(%d): %.4q, %d", sector, s, e)
		}
		l = append(l, s)
	}
	return l
}

// masks are what may survive of n sectors that wait: all that there are, if these are few; else none, all, each one alone, each one not, and some.
func masks(n int) []string {
	var l []string
	if n <= 5 {
		for bits := range 1 << n {
			b := make([]byte, n)
			for i := range b {
				b[i] = byte(bits>>i) & 1
			}
			l = append(l, string(b))
		}
		return l
	}
	all := strings.Repeat("\x01", n)
	l = append(l, "", all)
	for i := range n {
		l = append(l, strings.Repeat("\x00", i)+"\x01", all[:i]+"\x00"+all[i+1:])
	}
	r := rand.New(rand.NewSource(int64(n)))
	for range 6 {
		b := make([]byte, n)
		r.Read(b)
		l = append(l, string(b))
	}
	return l
}

// hold is what W6 lets a journal find: what the last Commit left that answered OK, what was staged since, the Commit under way.
type hold struct {
	left   []string
	staged map[int][]string
	under  []api.Write
}

func newHold(left []string) *hold { return &hold{left: left, staged: map[int][]string{}} }

func (h *hold) stage(sector int, bytes string) {
	h.staged[sector] = append(h.staged[sector], bytes)
}

// committed: a Commit answered OK.
func (h *hold) committed(l []api.Write) {
	for sector, staged := range h.staged {
		h.left[sector] = staged[len(staged)-1]
	}
	for _, x := range l {
		h.left[x.Sector] = x.Bytes
	}
	h.staged = map[int][]string{}
	h.under = nil
}

// check holds what was found against W6. It tells whether the Commit under way is whole.
func (h *hold) check(t *testing.T, what string, found []string) bool {
	t.Helper()
	whole, under := len(h.under) > 0, map[int]bool{}
	for _, x := range h.under {
		whole = whole && found[x.Sector] == x.Bytes
		under[x.Sector] = true
	}
	for sector, bytes := range found {
		if whole && under[sector] || bytes == h.left[sector] || slices.Contains(h.staged[sector], bytes) {
			continue
		}
		t.Errorf("W6: %s: home sector %d is %.4q", what, sector, bytes)
	}
	return whole
}

func TestNew(t *testing.T) {
	if w, e := wal.New(nil); w != nil || e != api.ErrArg {
		t.Errorf("W1: %d", e)
	}
	for _, n := range []int{8, 31} {
		d := newDev(t, n)
		d.Write(0, mark(1))
		if w, e := wal.New(d); w != nil || e != api.ErrNoSpace {
			t.Errorf("W1: of %d sectors: %d", n, e)
		}
		d.Fuse(0)
		if w, e := wal.New(d); w != nil || e != api.ErrDown {
			t.Errorf("W1: of %d sectors, down: %d", n, e)
		}
	}
	for _, n := range []int{32, 33, 40, 57, 100, 8191, 8192} {
		d := newDev(t, n)
		d.Crash("")
		d.Fuse(1)
		w := newWal(t, d)
		if w.Size() < n-32 || w.Size() > n || w.Most() != 24 {
			t.Errorf("W1: of %d sectors: %d, %d", n, w.Size(), w.Most())
		}
		for _, bytes := range home(t, w) {
			if bytes != zero {
				t.Errorf("W1: %.4q", bytes)
			}
		}
		if !d.Up() || len(d.Waiting()) > 0 {
			t.Error("W1: New wrote")
		}
		d.Fuse(-1)
		want(t, "W5", w.Commit(nil), api.OK)
		if again := open(t, d); again.Size() != w.Size() || again.Most() != 24 {
			t.Errorf("W1: of %d sectors: %d, %d", n, w.Size(), again.Size())
		}
	}
}

func TestNewOfWhatIsNotEmpty(t *testing.T) {
	for at := range 40 {
		d := newDev(t, 40)
		d.Write(at, zero)
		if w, e := wal.New(d); w != nil || e != api.ErrWalForm {
			t.Errorf("W1: zeros wait for %d: %d", at, e)
		}
		d.Fuse(0)
		if w, e := wal.New(d); w != nil || e != api.ErrDown {
			t.Errorf("W1: down, and not empty: %d", e)
		}
		d.Crash("\x01")
		newWal(t, d.Copy())
		d.Write(at, strings.Repeat("\x00", 63)+"\x01")
		d.Sync()
		if w, e := wal.New(d); w != nil || e != api.ErrWalForm {
			t.Errorf("W1: sector %d is not zeros: %d", at, e)
		}
	}
}

func TestOpenRefuses(t *testing.T) {
	if w, e := wal.Open(nil); w != nil || e != api.ErrArg {
		t.Errorf("W2: %d", e)
	}
	d := newDev(t, 31)
	if w, e := wal.Open(d); w != nil || e != api.ErrNoSpace {
		t.Errorf("W2: %d", e)
	}
	d.Fuse(0)
	if w, e := wal.Open(d); w != nil || e != api.ErrDown {
		t.Errorf("W2: %d", e)
	}
	d = newDev(t, 32)
	d.Fuse(0)
	if w, e := wal.Open(d); w != nil || e != api.ErrDown {
		t.Errorf("W2: %d", e)
	}
}

func TestOpenOfAnEmptyDevice(t *testing.T) {
	for _, n := range []int{32, 100} {
		d := newDev(t, n)
		w := open(t, d)
		if len(d.Waiting()) > 0 || w.Size() != newWal(t, d).Size() {
			t.Errorf("W2: %v, %d", d.Waiting(), w.Size())
		}
		for _, bytes := range home(t, w) {
			if bytes != zero {
				t.Errorf("W2: %.4q", bytes)
			}
		}
		want(t, "W5", w.Commit(marked(1, 0, 6)), api.OK)
		wantRead(t, "W5", w, 6, mark(2))
	}
}

// TestOpenOfAnything: whatever a device holds, Open ends, and answers as R3 says.
func TestOpenOfAnything(t *testing.T) {
	check := func(d *dev.Dev) {
		w, e := wal.Open(d)
		if (w == nil) != (e != api.OK) || e != api.OK && e != api.ErrWalForm {
			t.Errorf("W2: %v, %d", w != nil, e)
		}
	}
	for _, n := range []int{32, 57, 8192} {
		for b := range 256 {
			d := newDev(t, n)
			for at := max(0, n-40); at < n; at++ {
				d.Write(at, full(string([]byte{byte(b)})))
			}
			check(d)
			d.Sync()
			check(d)
		}
	}
	for _, n := range []int{24, 25, 31, 32, 255} {
		b := make([]byte, api.Sector)
		b[0] = byte(n)
		for i := 2; i < len(b); i += 2 {
			b[i] = byte(i)
		}
		d := newDev(t, 8192)
		for at := range d.Sectors() {
			d.Write(at, string(b))
		}
		check(d)
	}
	for seed := range 500 {
		r := rand.New(rand.NewSource(int64(seed)))
		d := newDev(t, 32+r.Intn(60))
		for at := range d.Sectors() {
			b := make([]byte, api.Sector)
			for i := range 1 + r.Intn(40) {
				b[i] = byte(r.Intn(1 + r.Intn(30)))
			}
			d.Write(at, string(b))
		}
		d.Crash(strings.Repeat("\x01", 99))
		check(d)
	}
}

func TestRead(t *testing.T) {
	d := newDev(t, 64)
	w := newWal(t, d)
	for _, sector := range []int{-1, w.Size(), w.Size() + 1, d.Sectors(), math.MinInt, math.MaxInt} {
		if s, e := w.Read(sector); s != "" || e != api.ErrArg {
			t.Errorf("W3: Read(%d): %.4q, %d", sector, s, e)
		}
	}
	for i, sector := range []int{0, 1, w.Size() - 1} {
		wantRead(t, "W3", w, sector, zero)
		want(t, "W4", w.Stage(sector, mark(i)), api.OK)
		wantRead(t, "W3: staged", w, sector, mark(i))
		want(t, "W5", w.Commit(writes(mark(10+i), sector)), api.OK)
		wantRead(t, "W3: written", w, sector, mark(10+i))
		want(t, "W4", w.Stage(sector, mark(20+i)), api.OK)
		want(t, "W4", w.Stage(sector, mark(30+i)), api.OK)
		wantRead(t, "W3: staged last", w, sector, mark(30+i))
		want(t, "W5", w.Commit(nil), api.OK)
		wantRead(t, "W3", w, sector, mark(30+i))
	}
	for i, sector := range []int{0, 1, w.Size() - 1} {
		wantRead(t, "W3", w, sector, mark(30+i))
	}
}

func TestStage(t *testing.T) {
	d := newDev(t, 64)
	w := newWal(t, d)
	for _, sector := range []int{-1, w.Size(), d.Sectors(), math.MinInt, math.MaxInt} {
		want(t, "W4", w.Stage(sector, mark(1)), api.ErrArg)
	}
	for _, n := range []int{0, 63, 65} {
		want(t, "W4", w.Stage(0, strings.Repeat("a", n)), api.ErrArg)
	}
	if len(d.Waiting()) > 0 {
		t.Error("P4.2: Stage wrote")
	}
	w.Commit(marked(1, 0, 1, 2))
	for sector := range 4 {
		want(t, "W4", w.Stage(sector, mark(50+sector)), api.OK)
	}
	want(t, "W5", w.Commit(writes("", 1)), api.ErrArg)
	d.Crash("")
	w = open(t, d)
	for sector, bytes := range []string{mark(1), mark(2), mark(3), zero} {
		wantRead(t, "W4: no sooner", w, sector, bytes)
	}
	for sector := range 4 {
		want(t, "W4", w.Stage(sector, mark(60+sector)), api.OK)
	}
	d.Crash("\x00\x01\x00\x01")
	w = open(t, d)
	for sector, bytes := range []string{mark(1), mark(61), mark(3), mark(63)} {
		wantRead(t, "W4: as a crash lets it survive", w, sector, bytes)
	}
	for sector := range 4 {
		want(t, "W4", w.Stage(sector, mark(70+sector)), api.OK)
	}
	want(t, "W5", w.Commit(marked(80, 2, 9)), api.OK)
	d.Crash("")
	w = open(t, d)
	for sector, bytes := range map[int]string{0: mark(70), 1: mark(71), 2: mark(80), 3: mark(73), 9: mark(81), 8: zero} {
		wantRead(t, "W5: safe behind it", w, sector, bytes)
	}
}

func TestCommit(t *testing.T) {
	d := newDev(t, 100)
	w := newWal(t, d)
	last := w.Size() - 1
	model := newHold(home(t, w))
	for i, l := range [][]api.Write{
		nil,
		{},
		marked(1, 0),
		marked(2, last, 3, 0),
		marked(10, numbers(23)...),
		marked(40, numbers(24)...),
		writes(zero, 5, 4),
		marked(70, 30, 29, 28, 27, 26, 25, 24, 23, 22, 21, 20, 19, 18, 17, 16, 15, 14, 13, 12, 11, 10, 9, 8, 7),
		nil,
	} {
		w.Stage(40+i, mark(200+i))
		w.Stage(3, mark(220+i))
		model.stage(40+i, mark(200+i))
		model.stage(3, mark(220+i))
		want(t, "W5", w.Commit(l), api.OK)
		model.committed(l)
		if !slices.Equal(home(t, w), model.left) {
			t.Errorf("W5: behind Commit %d", i)
		}
		d.Crash("")
		if w = open(t, d); !slices.Equal(home(t, w), model.left) {
			t.Errorf("W5: not safe behind Commit %d", i)
		}
	}
}

func TestCommitRefuses(t *testing.T) {
	d := newDev(t, 100)
	w := newWal(t, d)
	size := w.Size()
	d.Fuse(1)
	for i, c := range []struct {
		l []api.Write
		e api.Errno
	}{
		{writes(mark(1), 0, 0), api.ErrArg},
		{writes(mark(1), 0, 1, 2, 0), api.ErrArg},
		{append(writes(mark(1), 4, 3), writes(mark(2), 4)...), api.ErrArg},
		{writes(mark(1), -1), api.ErrArg},
		{writes(mark(1), size), api.ErrArg},
		{writes(mark(1), d.Sectors()), api.ErrArg},
		{writes(mark(1), 0, math.MaxInt), api.ErrArg},
		{writes(mark(1), math.MinInt, 0), api.ErrArg},
		{writes("", 0), api.ErrArg},
		{writes(mark(1)[:63], 0), api.ErrArg},
		{writes(mark(1)+"a", 0), api.ErrArg},
		{append(writes(mark(1), 0), writes("a", 1)...), api.ErrArg},
		{writes(mark(1), numbers(25)...), api.ErrNoSpace},
		{writes(mark(1), numbers(size)...), api.ErrNoSpace},
		{writes(mark(1), append(numbers(25), 24)...), api.ErrArg},
		{writes(mark(1), append(numbers(25), size)...), api.ErrArg},
		{append(writes(mark(1), numbers(25)...), writes("a", 30)...), api.ErrArg},
	} {
		if e := w.Commit(c.l); e != c.e || len(d.Waiting()) > 0 || !d.Up() {
			t.Errorf("W5, P4.2: %d: %d, want %d; %v", i, e, c.e, d.Waiting())
		}
	}
	want(t, "P4.2", w.Stage(-1, mark(1)), api.ErrArg)
	want(t, "P4.2", w.Stage(0, "a"), api.ErrArg)
	w.Read(-1)
	want(t, "P4.2: no fuse counted that", w.Stage(0, mark(1)), api.OK)
	d.Fuse(-1)
	wantRead(t, "P4.2: it is not lost", w, 0, mark(1))
	want(t, "P4.2", w.Commit(writes(mark(1), numbers(25)...)), api.ErrNoSpace)
	d.Crash("")
	wantRead(t, "P4.2: nothing staged is safe by that", open(t, d), 0, zero)
}

func TestLost(t *testing.T) {
	calls := map[string]func(w *wal.Wal) api.Errno{
		"Size":   func(w *wal.Wal) api.Errno { w.Size(); return api.ErrDown },
		"Most":   func(w *wal.Wal) api.Errno { w.Most(); return api.ErrDown },
		"Read":   func(w *wal.Wal) api.Errno { _, e := w.Read(0); return e },
		"Stage":  func(w *wal.Wal) api.Errno { return w.Stage(0, mark(1)) },
		"Commit": func(w *wal.Wal) api.Errno { return w.Commit(marked(1, 0, 1)) },

		"Commit of nothing":        func(w *wal.Wal) api.Errno { return w.Commit(nil) },
		"Read of no sector":        func(w *wal.Wal) api.Errno { _, e := w.Read(-1); return e },
		"Stage of no sector":       func(w *wal.Wal) api.Errno { return w.Stage(-1, mark(1)) },
		"Stage of no bytes":        func(w *wal.Wal) api.Errno { return w.Stage(0, "") },
		"Commit of no sector":      func(w *wal.Wal) api.Errno { return w.Commit(marked(1, 0, -1)) },
		"Commit of 25":             func(w *wal.Wal) api.Errno { return w.Commit(marked(1, numbers(25)...)) },
		"Commit of a sector twice": func(w *wal.Wal) api.Errno { return w.Commit(marked(1, 0, 0)) },
	}
	for name, call := range calls {
		d := newDev(t, 64)
		w := newWal(t, d)
		size := w.Size()
		d.Fuse(0)
		want(t, name+" while down", call(w), api.ErrDown)
		d.Fuse(-1)
		wantLost(t, name+" was called while down", d, w)
		d.Fuse(0)
		wantLost(t, name+" was called while down, and it is down", d, w)
		d.Fuse(-1)
		if w.Size() != size || w.Most() != 24 {
			t.Errorf("W1: of a lost one: %d, %d", w.Size(), w.Most())
		}
		wantRead(t, "a new one", open(t, d), 0, zero)
	}
	for name, call := range calls {
		d := newDev(t, 64)
		w := newWal(t, d)
		want(t, "W5", w.Commit(marked(5, 0)), api.OK)
		d.Crash("")
		want(t, name+" behind a crash", call(w), api.ErrDown)
		wantLost(t, name+" behind a crash", d, w)
		wantRead(t, "a new one", open(t, d), 0, mark(5))
	}
}

func TestLostAndNot(t *testing.T) {
	d := newDev(t, 40)
	w := newWal(t, d)
	d.Fuse(0)
	d.Fuse(-1)
	wantRead(t, "no call while it was down", w, 0, zero)
	d.Fuse(0)
	d.Crash("")
	wantLost(t, "crashed", d, w)
	w = open(t, d)
	d.Crash("")
	d.Crash("")
	wantLost(t, "crashed twice", d, w)
	w = open(t, d)
	w.Read(-1)
	w.Stage(0, "")
	w.Commit(marked(1, 0, 0))
	wantRead(t, "refused, not lost", w, 0, zero)
}

// TestLostOnTheWay: a Commit that is cut off loses the journal; one whose last write burns the fuse does not.
func TestLostOnTheWay(t *testing.T) {
	for n := range 100 {
		d := newDev(t, 40)
		w := newWal(t, d)
		d.Fuse(n)
		e := w.Commit(marked(1, 0, 1))
		if d.Fuse(-1); e == api.OK {
			wantRead(t, "burnt, not lost", w, 1, mark(2))
			want(t, "burnt, not lost", w.Stage(0, mark(3)), api.OK)
			want(t, "burnt, not lost", w.Commit(marked(4, 1)), api.OK)
			if n < 2 {
				t.Errorf("W5: with a fuse of %d", n)
			}
			break
		}
		want(t, "W5", e, api.ErrDown)
		wantLost(t, "cut off", d, w)
	}
	d := newDev(t, 40)
	w := newWal(t, d)
	d.Fuse(1)
	want(t, "W4", w.Stage(0, mark(1)), api.OK)
	d.Fuse(-1)
	wantRead(t, "burnt, not lost", w, 0, mark(1))
}

// cutOff stages and commits with a fuse of every number, and hands what there is, when the device has gone down and when it has not, to try.
func cutOff(t *testing.T, d *dev.Dev, stage, commit []api.Write, try func(d *dev.Dev, h *hold, e api.Errno)) {
	t.Helper()
	for n := 0; ; n++ {
		if n > mostSteps {
			t.Fatalf("W5: ErrDown with a fuse of %d", n)
		}
		c := d.Copy()
		w := open(t, c)
		h := newHold(home(t, w))
		for _, x := range stage {
			want(t, "W4", w.Stage(x.Sector, x.Bytes), api.OK)
			h.stage(x.Sector, x.Bytes)
		}
		c.Fuse(n)
		e := w.Commit(commit)
		if e == api.OK {
			h.committed(commit)
		} else {
			want(t, "W5", e, api.ErrDown)
			h.under = commit
		}
		try(c, h, e)
		if e == api.OK {
			return
		}
	}
}

// begun is a device with a journal that has something on all kinds of sectors.
func begun(t *testing.T) *dev.Dev {
	d := newDev(t, 64)
	w := newWal(t, d)
	want(t, "W5", w.Commit(marked(1, numbers(20)...)), api.OK)
	want(t, "W5", w.Commit(marked(31, 3, 1, 30)), api.OK)
	d.Crash("")
	return d
}

func cases() (l []struct{ stage, commit []api.Write }) {
	for _, c := range [][2][]int{
		{nil, nil},
		{{5, 6}, nil},
		{nil, {0}},
		{{0}, {0}},
		{{5, 0, 5}, {1, 0, 30}},
		{{1, 0, 1, 31}, {30, 1}},
		{nil, {7, 6, 5, 4}},
		{{2, 35}, numbers(24)},
		{numbers(38), {37, 0}},
	} {
		l = append(l, struct{ stage, commit []api.Write }{marked(100, c[0]...), marked(150, c[1]...)})
	}
	return l
}

// TestEveryPoint: a fuse of every number ahead of a Commit, whatever survives.
func TestEveryPoint(t *testing.T) {
	d := begun(t)
	for _, c := range cases() {
		wholes, nones := 0, 0
		cutOff(t, d, c.stage, c.commit, func(d *dev.Dev, h *hold, e api.Errno) {
			for _, mask := range masks(len(d.Waiting())) {
				c := d.Copy()
				c.Crash(mask)
				found := home(t, open(t, c))
				if h.check(t, "behind a Commit", found) {
					wholes++
				} else {
					nones++
				}
				if c.Crash("\x01"); !slices.Equal(found, home(t, open(t, c))) {
					t.Error("P4.1: opened twice")
				}
			}
		})
		if len(c.commit) > 0 && (wholes == 0 || nones == 0) {
			t.Errorf("the points of %d writes are not all sorts: %d, %d", len(c.commit), wholes, nones)
		}
	}
}

// TestEveryPointOfAnOpen: behind any crash, Opens with a fuse of every number, whatever survives them, change nothing of what is found.
func TestEveryPointOfAnOpen(t *testing.T) {
	d := begun(t)
	cut := 0
	for _, c := range cases() {
		if len(c.commit) > 4 {
			continue
		}
		cutOff(t, d, c.stage, c.commit, func(d *dev.Dev, h *hold, e api.Errno) {
			all := masks(len(d.Waiting()))
			for i := 0; i < len(all); i += 1 + len(all)/16 {
				b := d.Copy()
				b.Crash(all[i])
				found := home(t, open(t, b.Copy()))
				h.check(t, "behind a Commit", found)
				cut += cutOpens(t, b, found, 2)
			}
		})
	}
	if cut == 0 {
		t.Error("P4.4: no Open was cut off")
	}
}

// cutOpens cuts Opens off, one behind the other, up to so many; it tells how many were.
func cutOpens(t *testing.T, d *dev.Dev, found []string, deep int) int {
	t.Helper()
	cut := 0
	for n := 0; ; n++ {
		if n > mostSteps {
			t.Fatalf("W2: ErrDown with a fuse of %d", n)
		}
		c := d.Copy()
		c.Fuse(n)
		w, e := wal.Open(c)
		if (w == nil) != (e != api.OK) || e != api.OK && e != api.ErrDown {
			t.Fatalf("W2: %d", e)
		}
		for _, mask := range masks(len(c.Waiting())) {
			b := c.Copy()
			b.Crash(mask)
			if deep > 1 && e != api.OK && n > 0 {
				cut += cutOpens(t, b, found, deep-1)
			}
			if !slices.Equal(found, home(t, open(t, b))) {
				t.Fatalf("P4.1: an Open with a fuse of %d, %q surviving, changed what is found", n, mask)
			}
		}
		if e == api.OK {
			return cut
		}
		cut++
	}
}

// TestUpWithoutACrash: a device may come up again with all that waits still waiting; an Open of that, cut off, and crashes behind it, must not tear a Commit.
func TestUpWithoutACrash(t *testing.T) {
	d := begun(t)
	for _, c := range cases() {
		if len(c.commit) > 4 {
			continue
		}
		cutOff(t, d, c.stage, c.commit, func(d *dev.Dev, h *hold, e api.Errno) {
			for n := 0; n < 40; n++ {
				b := d.Copy()
				b.Fuse(n)
				if _, e := wal.Open(b); e == api.OK {
					n = 40
				}
				for _, mask := range masks(len(b.Waiting())) {
					b := b.Copy()
					b.Crash(mask)
					h.check(t, "up without a crash", home(t, open(t, b)))
				}
			}
		})
	}
}

// TestOneBehindTheOther: a Commit that was cut off, opened again with or without a crash, has no part in what a later Commit that is cut off leaves.
func TestOneBehindTheOther(t *testing.T) {
	d := begun(t)
	later := marked(180, 2, 0, 33, 4)
	cutOff(t, d, marked(100, 5), marked(150, 1, 30, 0), func(d *dev.Dev, h *hold, e api.Errno) {
		for _, crash := range []bool{true, false} {
			for _, mask := range masks(len(d.Waiting())) {
				b := d.Copy()
				b.Fuse(-1)
				if crash {
					b.Crash(mask)
				}
				found := home(t, open(t, b.Copy()))
				h.check(t, "the first one", found)
				cutOff(t, b, nil, later, func(d *dev.Dev, g *hold, e api.Errno) {
					if e != api.OK {
						g.left = found
					}
					// Without a crash what was staged may still be lost.
					g.staged[5] = []string{h.left[5]}
					for _, mask := range masks(len(d.Waiting())) {
						c := d.Copy()
						c.Crash(mask)
						g.check(t, "a later one", home(t, open(t, c)))
					}
				})
				if !crash {
					break
				}
			}
		}
	})
}

// TestFarSectors: what is cut off is redone on sectors of all numbers, and on no others.
func TestFarSectors(t *testing.T) {
	d := newDev(t, 8192)
	w := newWal(t, d)
	last := w.Size() - 1
	far := []int{0, 255, 256, 511, 512, 4095, 4096, last - 1, last}
	near := []int{1, 127, 128, 254, 257, 510, 513, 2048, 4094, 4097, last - 2}
	whole := 0
	for n := range 60 {
		c := d.Copy()
		w := open(t, c)
		c.Fuse(n)
		w.Commit(marked(1, far...))
		c.Crash("")
		w = open(t, c)
		some, _ := w.Read(0)
		for i, sector := range far {
			if some == zero {
				wantRead(t, "W6: none", w, sector, zero)
			} else {
				wantRead(t, "W6: whole", w, sector, mark(1+i))
			}
		}
		for _, sector := range near {
			wantRead(t, "W6: others", w, sector, zero)
		}
		if some != zero {
			whole++
		}
	}
	if whole < 2 || whole == 60 {
		t.Errorf("the points are not all sorts: %d", whole)
	}
}

func TestTwoDevices(t *testing.T) {
	d, c := begun(t), begun(t)
	w, v := open(t, d), open(t, c)
	found := home(t, v)
	c.Fuse(7)
	want(t, "W4", w.Stage(8, mark(100)), api.OK)
	want(t, "W5", w.Commit(marked(101, 0, 1)), api.OK)
	d.Fuse(3)
	want(t, "W5", w.Commit(marked(111, 0, 1)), api.ErrDown)
	d.Crash("\x01")
	open(t, d)
	if len(c.Waiting()) > 0 || !slices.Equal(found, home(t, v)) {
		t.Error("P4.3: what is done on one device is seen on the other one")
	}
	for i := range 7 {
		want(t, "P4.3: its fuse is its own", v.Stage(i, mark(120)), api.OK)
	}
	want(t, "P4.3", v.Stage(0, mark(120)), api.ErrDown)
}

func TestTogether(t *testing.T) {
	for _, n := range []int{1, 2, 12, 23} {
		d := begun(t)
		first, second := marked(100, numbers(38)[10:10+n]...), marked(130, numbers(38)[10+n:34]...)
		var found [][]string
		for _, order := range [][][]api.Write{{first, second}, {second, first}, {slices.Concat(first, second)}, {slices.Concat(second, first)}} {
			c := d.Copy()
			w := open(t, c)
			for _, l := range order {
				want(t, "W5", w.Commit(l), api.OK)
			}
			found = append(found, home(t, w))
			c.Crash("")
			found = append(found, home(t, open(t, c)))
		}
		for _, l := range found {
			if !slices.Equal(l, found[0]) || l[10] != mark(100) || l[33] != mark(130+23-n) {
				t.Errorf("P4.5: %d and %d writes", len(first), len(second))
			}
		}
	}
}

// TestSameEachTime: which write a fuse cuts off is the same each time, whatever a map's order.
func TestSameEachTime(t *testing.T) {
	for n := range 60 {
		var looks []string
		for range 6 {
			d := begun(t)
			w := open(t, d)
			d.Fuse(n)
			w.Commit(marked(100, 9, 1, 7, 2, 30, 4, 12))
			d.Crash("\x01\x00\x01\x01")
			look := ""
			for at := range d.Sectors() {
				s, _ := d.Safe(at)
				look += s
			}
			looks = append(looks, look)
		}
		if len(slices.Compact(looks)) > 1 {
			t.Errorf("R6: a fuse of %d", n)
		}
	}
}

func TestNothingIsKept(t *testing.T) {
	d := newDev(t, 64)
	w := newWal(t, d)
	l := marked(1, 9, 3, 5)
	kept := slices.Clone(l)
	want(t, "W5", w.Commit(l), api.OK)
	if !slices.Equal(l, kept) {
		t.Errorf("R5: %v", l)
	}
	l[0] = api.Write{Sector: 1, Bytes: mark(99)}
	wantRead(t, "R5", w, 9, mark(1))
	wantRead(t, "R5", w, 1, zero)
}

func TestExamples(t *testing.T) {
	d := newDev(t, 40)
	w := newWal(t, d)
	if w.Size() < 8 {
		t.Errorf("example 1: %d", w.Size())
	}
	want(t, "example 1", w.Commit(marked(1, 0, 1)), api.OK)
	d.Crash("")
	w = open(t, d)
	wantRead(t, "example 1", w, 0, mark(1))
	wantRead(t, "example 1", w, 1, mark(2))

	for _, mask := range []string{"", "\x01", "\x00\x01", "\x01\x01"} {
		d = newDev(t, 40)
		w = newWal(t, d)
		d.Fuse(2)
		want(t, "example 2", w.Commit(marked(1, 0, 1)), api.ErrDown)
		if s, e := w.Read(0); s != "" || e != api.ErrDown {
			t.Errorf("example 2: %.4q, %d", s, e)
		}
		d.Crash(mask)
		found := home(t, open(t, d))
		none, both := found[0] == zero && found[1] == zero, found[0] == mark(1) && found[1] == mark(2)
		if !none && !both {
			t.Errorf("example 2: %.4q, %.4q", found[0], found[1])
		}
	}

	if w, e := wal.New(newDev(t, 31)); w != nil || e != api.ErrNoSpace {
		t.Errorf("example 3: %d", e)
	}
	w = newWal(t, newDev(t, 64))
	want(t, "example 3", w.Commit(writes(mark(1), numbers(25)...)), api.ErrNoSpace)
	want(t, "example 3", w.Commit(writes(mark(1), 4, 4)), api.ErrArg)
}

// TestWalks stages, commits, blows fuses, crashes and opens at random, and holds all that is read against W3 and W6.
func TestWalks(t *testing.T) {
	for seed := range 300 {
		r := rand.New(rand.NewSource(int64(seed)))
		d := newDev(t, 32+r.Intn(20))
		w := newWal(t, d)
		h := newHold(home(t, w))
		now := slices.Clone(h.left)
		for step := range 60 {
			if !walk(t, r, d, w, h, now, 1+100*step) {
				w = reopen(t, r, d, h)
				now = home(t, w)
				h.left, h.staged, h.under = slices.Clone(now), map[int][]string{}, nil
			}
			if d.Up() && !slices.Equal(home(t, w), now) {
				t.Fatalf("W3: walk %d, step %d", seed, step)
			}
		}
	}
}

// walk makes one step; false: the device fell.
func walk(t *testing.T, r *rand.Rand, d *dev.Dev, w *wal.Wal, h *hold, now []string, from int) bool {
	t.Helper()
	switch k := r.Intn(10); {
	case k < 4:
		sector, bytes := r.Intn(len(now)), mark(from)
		if w.Stage(sector, bytes) != api.OK {
			return false
		}
		h.stage(sector, bytes)
		now[sector] = bytes
	case k < 8:
		l := marked(from, r.Perm(len(now))[:r.Intn(min(24, len(now))+1)]...)
		if w.Commit(l) != api.OK {
			h.under = l
			return false
		}
		h.committed(l)
		copy(now, h.left)
	case k < 9:
		d.Fuse(r.Intn(90))
		return d.Up()
	default:
		return false
	}
	return true
}

// reopen crashes, with Opens that are cut off in between, till one is not.
func reopen(t *testing.T, r *rand.Rand, d *dev.Dev, h *hold) *wal.Wal {
	t.Helper()
	for {
		mask := make([]byte, r.Intn(60))
		r.Read(mask)
		d.Crash(string(mask))
		d.Fuse(r.Intn(60))
		if w, e := wal.Open(d); e != api.ErrDown {
			if w == nil {
				t.Fatalf("W2: %d", e)
			}
			d.Fuse(-1)
			h.check(t, "along a walk", home(t, w))
			return w
		}
	}
}
