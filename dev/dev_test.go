package dev_test

import (
	"math"
	"math/rand"
	"slices"
	"strings"
	"testing"

	"oxbow/api"
	"oxbow/dev"
)

func full(s string) string { return strings.Repeat(s, api.Sector) }

var zero = full("\x00")

func newDev(t *testing.T, sectors int) *dev.Dev {
	t.Helper()
	d, e := dev.New(sectors)
	if d == nil || e != api.OK {
		t.Fatalf("D1: New(%d): %d", sectors, e)
	}
	return d
}

func want(t *testing.T, what string, got api.Errno, e api.Errno) {
	t.Helper()
	if got != e {
		t.Errorf("%s: %d, want %d", what, got, e)
	}
}

func wantRead(t *testing.T, what string, d *dev.Dev, at int, bytes string) {
	t.Helper()
	if s, e := d.Read(at); s != bytes || e != api.OK {
		t.Errorf("%s: Read(%d) = %.8q, %d, want %.8q", what, at, s, e, bytes)
	}
}

func wantSafe(t *testing.T, what string, d *dev.Dev, at int, bytes string) {
	t.Helper()
	if s, e := d.Safe(at); s != bytes || e != api.OK {
		t.Errorf("%s: Safe(%d) = %.8q, %d, want %.8q", what, at, s, e, bytes)
	}
}

func wantWaiting(t *testing.T, what string, d *dev.Dev, l ...int) {
	t.Helper()
	if got := d.Waiting(); !slices.Equal(got, l) {
		t.Errorf("%s: Waiting() = %v, want %v", what, got, l)
	}
}

// look is all that may be seen of a device without changing it; the fuse is seen by how a copy burns it.
type look struct {
	sectors, age, left int
	up                 bool
	waiting            []int
	safe, read         []string
}

func lookAt(d *dev.Dev) look {
	l := look{sectors: d.Sectors(), age: d.Age(), up: d.Up(), waiting: d.Waiting()}
	c := d.Copy()
	for ; l.left < 40 && c.Sync() == api.OK; l.left++ {
	}
	r := d.Copy()
	r.Fuse(-1)
	for at := range d.Sectors() {
		s, _ := d.Safe(at)
		l.safe = append(l.safe, s)
		s, _ = r.Read(at)
		l.read = append(l.read, s)
	}
	return l
}

func (l look) same(m look) bool {
	return l.sectors == m.sectors && l.age == m.age && l.left == m.left && l.up == m.up && slices.Equal(l.waiting, m.waiting) && slices.Equal(l.safe, m.safe) && slices.Equal(l.read, m.read)
}

func TestNew(t *testing.T) {
	for _, n := range []int{7, 8193, 0, -1, -8, math.MinInt, math.MaxInt} {
		if d, e := dev.New(n); d != nil || e != api.ErrArg {
			t.Errorf("D1: New(%d): %v, %d", n, d != nil, e)
		}
	}
	for _, n := range []int{8, 9, 100, 8191, 8192} {
		d := newDev(t, n)
		if d.Sectors() != n || !d.Up() || d.Age() != 0 {
			t.Errorf("D1: New(%d): %d, %v, %d", n, d.Sectors(), d.Up(), d.Age())
		}
		wantWaiting(t, "D1", d)
		for at := range n {
			wantSafe(t, "D1", d, at, zero)
			wantRead(t, "D1", d, at, zero)
		}
		for i := range 3 * n {
			want(t, "D1: without a fuse", d.Write(i%n, full("x")), api.OK)
		}
	}
}

func TestPlaces(t *testing.T) {
	for _, n := range []int{8, 8192} {
		d := newDev(t, n)
		for _, at := range []int{-1, n, n + 1, math.MinInt, math.MaxInt} {
			want(t, "D2", d.Write(at, full("a")), api.ErrArg)
			if s, e := d.Read(at); s != "" || e != api.ErrArg {
				t.Errorf("D3: Read(%d): %q, %d", at, s, e)
			}
			if s, e := d.Safe(at); s != "" || e != api.ErrArg {
				t.Errorf("D7: Safe(%d): %q, %d", at, s, e)
			}
		}
		wantWaiting(t, "D2", d)
		for _, at := range []int{0, n - 1} {
			want(t, "D2", d.Write(at, full("a")), api.OK)
			wantRead(t, "D3", d, at, full("a"))
			wantSafe(t, "D7", d, at, zero)
		}
		wantWaiting(t, "D7", d, 0, n-1)
	}
}

func TestLengths(t *testing.T) {
	d := newDev(t, 8)
	want(t, "D2", d.Write(0, full("a")), api.OK)
	for _, n := range []int{0, 1, 63, 65, 128} {
		want(t, "D2", d.Write(0, strings.Repeat("b", n)), api.ErrArg)
		want(t, "D2", d.Write(1, strings.Repeat("b", n)), api.ErrArg)
	}
	wantWaiting(t, "D2", d, 0)
	wantRead(t, "D2", d, 0, full("a"))
	all := make([]byte, api.Sector)
	for i := range all {
		all[i] = byte(i * 4)
	}
	want(t, "D2", d.Write(7, string(all)), api.OK)
	wantRead(t, "D3", d, 7, string(all))
	want(t, "D4", d.Sync(), api.OK)
	wantSafe(t, "D4", d, 7, string(all))
}

func TestSync(t *testing.T) {
	d := newDev(t, 8)
	want(t, "D4: of nothing", d.Sync(), api.OK)
	d.Write(1, full("a"))
	d.Write(1, full("b"))
	d.Write(6, full("c"))
	wantSafe(t, "D2", d, 1, zero)
	wantRead(t, "D2: in the place of what waited", d, 1, full("b"))
	want(t, "D4", d.Sync(), api.OK)
	wantWaiting(t, "D4", d)
	for at, bytes := range map[int]string{0: zero, 1: full("b"), 6: full("c")} {
		wantSafe(t, "D4", d, at, bytes)
		wantRead(t, "D4", d, at, bytes)
	}
	d.Write(1, zero)
	wantRead(t, "D3: zeros wait like other bytes", d, 1, zero)
	wantSafe(t, "D3", d, 1, full("b"))
	wantWaiting(t, "D7", d, 1)
}

func TestFuse(t *testing.T) {
	d := newDev(t, 8)
	d.Fuse(2)
	for _, n := range []int{-2, -3, math.MinInt} {
		ahead := lookAt(d)
		want(t, "D5", d.Fuse(n), api.ErrArg)
		if !ahead.same(lookAt(d)) {
			t.Errorf("R3: Fuse(%d) changed the device", n)
		}
	}
	want(t, "D5", d.Fuse(0), api.OK)
	if d.Up() {
		t.Error("D5: up with a fuse of 0")
	}
	want(t, "D5: when down, too", d.Fuse(-2), api.ErrArg)
	want(t, "D2", d.Write(0, full("a")), api.ErrDown)
	want(t, "D4", d.Sync(), api.ErrDown)
	want(t, "D5", d.Fuse(1), api.OK)
	if !d.Up() {
		t.Error("D5: down with a fuse of 1")
	}
	want(t, "D2", d.Write(0, full("a")), api.OK)
	if d.Up() {
		t.Error("D2: the fuse of 1 is not burnt")
	}
	want(t, "D5", d.Fuse(-1), api.OK)
	if !d.Up() || d.Age() != 0 {
		t.Error("D5: down without a fuse")
	}
	wantRead(t, "D5: what waits stays", d, 0, full("a"))
	for range 20 {
		want(t, "D5", d.Sync(), api.OK)
	}
	want(t, "D5", d.Fuse(math.MaxInt), api.OK)
	want(t, "D4", d.Sync(), api.OK)
}

// TestWhenDown: ErrDown comes ahead of ErrArg, and nothing changes.
func TestWhenDown(t *testing.T) {
	d := newDev(t, 8)
	d.Write(1, full("a"))
	d.Sync()
	d.Write(2, full("b"))
	d.Fuse(0)
	ahead := lookAt(d)
	for _, at := range []int{-1, 0, 1, 2, 7, 8} {
		want(t, "D2", d.Write(at, full("c")), api.ErrDown)
		want(t, "D2", d.Write(at, "c"), api.ErrDown)
		if s, e := d.Read(at); s != "" || e != api.ErrDown {
			t.Errorf("D3: Read(%d): %q, %d", at, s, e)
		}
	}
	want(t, "D4", d.Sync(), api.ErrDown)
	if !ahead.same(lookAt(d)) {
		t.Error("P3.4: a device that is down has changed")
	}
	wantSafe(t, "D7", d, 1, full("a"))
	wantSafe(t, "D7", d, 2, zero)
	if _, e := d.Safe(8); e != api.ErrArg {
		t.Errorf("D7: %d", e)
	}
	wantWaiting(t, "D7", d, 2)
	if d.Sectors() != 8 || d.Age() != 0 || d.Copy().Up() {
		t.Errorf("D7: %d, %d", d.Sectors(), d.Age())
	}
	if n := d.Crash(""); n != 1 || !d.Up() || d.Age() != 1 {
		t.Errorf("D6: %d, %v, %d", n, d.Up(), d.Age())
	}
}

func TestCrash(t *testing.T) {
	for mask, survives := range map[string]string{
		"":                              "...",
		"\x00":                          "...",
		"\x01":                          "b..",
		"\x00\x01":                      ".c.",
		"\x00\x00\x01":                  "..d",
		"\x01\x01\x01":                  "bcd",
		"\x01\x00\x01":                  "b.d",
		"101":                           "b.d",
		"\x02\x03\xff":                  ".cd",
		"\xfe\x80\x81":                  "..d",
		"\x00\x00\x00\x01":              "...",
		"\x01\x01\x01\x01\x01\x00\x01":  "bcd",
		strings.Repeat("\x01\x00", 500): "b.d",
	} {
		d := newDev(t, 8)
		d.Write(2, full("a"))
		d.Write(5, full("a"))
		d.Sync()
		d.Write(7, full("d"))
		d.Write(2, full("b"))
		d.Write(5, full("c"))
		d.Fuse(3)
		if n := d.Crash(mask); n != 3 || d.Age() != 1 {
			t.Errorf("D6: Crash(%.8q): %d, %d", mask, n, d.Age())
		}
		wantWaiting(t, "D6", d)
		for i, at := range []int{2, 5, 7} {
			bytes := full(survives[i : i+1])
			if survives[i] == '.' {
				bytes = []string{full("a"), full("a"), zero}[i]
			}
			wantSafe(t, "D6", d, at, bytes)
			wantRead(t, "D6", d, at, bytes)
		}
		for range 9 {
			want(t, "D6: no fuse any more", d.Sync(), api.OK)
		}
	}
	d := newDev(t, 8)
	for i := range 3 {
		if n := d.Crash("\x01\x01"); n != 0 || d.Age() != i+1 {
			t.Errorf("D6: %d, %d", n, d.Age())
		}
	}
}

// TestSyncedStays: what is synced is read behind every crash, but where something else was written since and survives.
func TestSyncedStays(t *testing.T) {
	for mask := range 1 << 4 {
		d := newDev(t, 8)
		for at := range 8 {
			d.Write(at, full(string(rune('a'+at))))
		}
		d.Sync()
		for at := range 4 {
			d.Write(2*at, full("X"))
		}
		d.Crash(string([]byte{byte(mask), byte(mask >> 1), byte(mask >> 2), byte(mask >> 3)}))
		for at := range 8 {
			bytes := full(string(rune('a' + at)))
			if at%2 == 0 && mask>>(at/2)&1 == 1 {
				bytes = full("X")
			}
			wantRead(t, "P3.1, P3.2", d, at, bytes)
		}
		d.Crash("\x01\x01\x01\x01")
		for at := range 4 {
			wantRead(t, "P3.1", d, 2*at+1, full(string(rune('a'+2*at+1))))
		}
	}
}

func TestCopy(t *testing.T) {
	d := newDev(t, 9)
	d.Write(1, full("a"))
	d.Sync()
	d.Crash("")
	d.Write(1, full("b"))
	d.Write(3, full("c"))
	d.Fuse(5)
	c := d.Copy()
	ahead := lookAt(d)
	if !ahead.same(lookAt(c)) || c.Age() != 1 || c.Sectors() != 9 {
		t.Error("D7: the copy is not the same")
	}
	c.Write(2, full("x"))
	c.Write(1, full("x"))
	c.Sync()
	c.Crash("")
	if !ahead.same(lookAt(d)) {
		t.Error("P3.3: the copy changed its original")
	}
	behind := lookAt(c)
	d.Write(4, full("y"))
	d.Sync()
	d.Write(4, full("z"))
	d.Crash("\x01")
	d.Fuse(0)
	if !behind.same(lookAt(c)) {
		t.Error("P3.3: the original changed its copy")
	}
	if e := d.Copy(); e.Up() || e.Fuse(-1) != api.OK || d.Up() {
		t.Error("P3.3: a fuse is shared")
	}
}

// TestFuseOfEach: with a fuse of n the first n go, whatever they are; what is refused or reads does not count.
func TestFuseOfEach(t *testing.T) {
	for n := range 9 {
		d := newDev(t, 8)
		want(t, "D5", d.Fuse(n), api.OK)
		for i := range 12 {
			if i < n {
				want(t, "P3.4", d.Write(8, full("a")), api.ErrArg)
				want(t, "P3.4", d.Write(0, "a"), api.ErrArg)
				want(t, "P3.4", d.Fuse(-2), api.ErrArg)
				wantRead(t, "P3.4", d, 7, zero)
				d.Safe(1)
				d.Waiting()
			}
			e := api.OK
			if i >= n {
				e = api.ErrDown
			}
			ahead := lookAt(d)
			if i%3 == 2 {
				want(t, "P3.4", d.Sync(), e)
			} else {
				want(t, "P3.4", d.Write(i%4, full(string(rune('a'+i)))), e)
			}
			if e == api.ErrDown && !ahead.same(lookAt(d)) {
				t.Errorf("P3.4: a fuse of %d: call %d changed something", n, i)
			}
		}
	}
}

func TestEitherOrder(t *testing.T) {
	for i := range 8 {
		for j := range 8 {
			if i == j {
				continue
			}
			d := newDev(t, 8)
			d.Write(i, full("o"))
			d.Sync()
			c := d.Copy()
			d.Write(i, full("a"))
			d.Write(j, full("b"))
			c.Write(j, full("b"))
			c.Write(i, full("a"))
			if !lookAt(d).same(lookAt(c)) {
				t.Errorf("P3.5: sectors %d and %d", i, j)
			}
			d.Sync()
			once := lookAt(d)
			d.Sync()
			if !once.same(lookAt(d)) {
				t.Error("P3.5: a second Sync changed something")
			}
		}
	}
}

func TestNothingIsShared(t *testing.T) {
	d := newDev(t, 8)
	for at := range 5 {
		d.Write(at, full("a"))
	}
	l := d.Waiting()
	for i := range l[:cap(l)] {
		l[:cap(l)][i] = 99
	}
	wantWaiting(t, "R5", d, 0, 1, 2, 3, 4)
}

func TestExamples(t *testing.T) {
	d := newDev(t, 8)
	want(t, "example 1", d.Write(1, full("a")), api.OK)
	wantSafe(t, "example 1", d, 1, zero)
	wantRead(t, "example 1", d, 1, full("a"))

	d = newDev(t, 8)
	d.Write(1, full("a"))
	d.Write(1, full("b"))
	d.Write(3, full("c"))
	wantWaiting(t, "example 2", d, 1, 3)
	if n := d.Crash("\x00\x01"); n != 2 {
		t.Errorf("example 2: %d", n)
	}
	wantRead(t, "example 2", d, 1, zero)
	wantRead(t, "example 2", d, 3, full("c"))

	d = newDev(t, 8)
	want(t, "example 3", d.Fuse(1), api.OK)
	want(t, "example 3", d.Write(2, full("a")), api.OK)
	want(t, "example 3", d.Sync(), api.ErrDown)
	if s, e := d.Read(2); s != "" || e != api.ErrDown {
		t.Errorf("example 3: %q, %d", s, e)
	}
	if n := d.Crash(""); n != 1 {
		t.Errorf("example 3: %d", n)
	}
	wantRead(t, "example 3", d, 2, zero)

	want(t, "example 4", d.Write(8, full("a")), api.ErrArg)
	want(t, "example 4", d.Write(0, strings.Repeat("a", 63)), api.ErrArg)
	want(t, "example 4", d.Fuse(-2), api.ErrArg)
}

// plain is the chapter's device, said as plainly as can be: what it should be is compared with what it is along random walks.
type plain struct {
	safe, waits []string // waits: empty where nothing does
	fuse, age   int
}

func (p *plain) write(at int, data string) api.Errno {
	if p.fuse == 0 {
		return api.ErrDown
	}
	if at < 0 || at >= len(p.safe) || len(data) != 64 {
		return api.ErrArg
	}
	p.waits[at] = data
	p.burn()
	return api.OK
}

func (p *plain) sync() api.Errno {
	if p.fuse == 0 {
		return api.ErrDown
	}
	p.settle(func(int) bool { return true })
	p.burn()
	return api.OK
}

func (p *plain) burn() {
	if p.fuse > 0 {
		p.fuse--
	}
}

func (p *plain) setFuse(n int) api.Errno {
	if n < -1 {
		return api.ErrArg
	}
	p.fuse = n
	return api.OK
}

func (p *plain) crash(mask string) int {
	p.fuse = -1
	p.age++
	return p.settle(func(i int) bool { return i < len(mask) && mask[i]&1 != 0 })
}

func (p *plain) settle(survives func(i int) bool) int {
	i := 0
	for at, s := range p.waits {
		if s == "" {
			continue
		}
		if survives(i) {
			p.safe[at] = s
		}
		p.waits[at] = ""
		i++
	}
	return i
}

func (p *plain) look() look {
	l := look{sectors: len(p.safe), age: p.age, up: p.fuse != 0, left: min(p.fuse, 40), safe: slices.Clone(p.safe)}
	if p.fuse < 0 {
		l.left = 40
	}
	for at, s := range p.waits {
		if s == "" {
			l.read = append(l.read, p.safe[at])
		} else {
			l.read = append(l.read, s)
			l.waiting = append(l.waiting, at)
		}
	}
	return l
}

func TestWalks(t *testing.T) {
	for seed := range 200 {
		r := rand.New(rand.NewSource(int64(seed)))
		n := 8 + r.Intn(5)
		d := newDev(t, n)
		p := &plain{safe: make([]string, n), waits: make([]string, n), fuse: -1}
		for at := range n {
			p.safe[at] = zero
		}
		for step := range 60 {
			switch k := r.Intn(10); {
			case k < 5:
				at, data := r.Intn(n+2)-1, strings.Repeat(string(rune('a'+r.Intn(26))), 64-r.Intn(20)/19)
				want(t, "D2: walk", d.Write(at, data), p.write(at, data))
			case k < 7:
				want(t, "D4: walk", d.Sync(), p.sync())
			case k < 9:
				f := r.Intn(9) - 2
				want(t, "D5: walk", d.Fuse(f), p.setFuse(f))
			default:
				mask := make([]byte, r.Intn(n+2))
				r.Read(mask)
				if got, want := d.Crash(string(mask)), p.crash(string(mask)); got != want {
					t.Errorf("D6: walk: %d, want %d", got, want)
				}
			}
			if !p.look().same(lookAt(d)) {
				t.Fatalf("walk %d, step %d: the device is not as the chapter says", seed, step)
			}
		}
	}
}
