package pages_test

import (
	"maps"
	"math"
	"math/rand"
	"slices"
	"strings"
	"testing"

	"oxbow/api"
	"oxbow/dev"
	"oxbow/pages"
)

// mostSteps is more than any Put or Open of these tests writes and syncs.
const mostSteps = 300

// mark is so many bytes that are unlike for unlike numbers.
func mark(n, bytes int) string {
	b := make([]byte, bytes)
	for i := range b {
		b[i] = byte(n*31 + i*7 + i/64)
	}
	return string(b)
}

func newDev(t *testing.T, sectors int) *dev.Dev {
	t.Helper()
	d, e := dev.New(sectors)
	if d == nil || e != api.OK {
		t.Fatalf("D1: New(%d): %d", sectors, e)
	}
	return d
}

func newPages(t *testing.T, sectors int) (*dev.Dev, *pages.Pages) {
	t.Helper()
	d := newDev(t, sectors)
	p, e := pages.New(d)
	if p == nil || e != api.OK {
		t.Fatalf("V1: New: %d", e)
	}
	return d, p
}

func open(t *testing.T, d *dev.Dev) *pages.Pages {
	t.Helper()
	p, e := pages.Open(d)
	if p == nil || e != api.OK {
		t.Fatalf("V2: Open: %d", e)
	}
	return p
}

func want(t *testing.T, what string, got, e api.Errno) {
	t.Helper()
	if got != e {
		t.Errorf("%s: %d, want %d", what, got, e)
	}
}

func wantNext(t *testing.T, what string, p *pages.Pages, l ...int) {
	t.Helper()
	if got, e := p.Next(len(l)); !slices.Equal(got, l) || e != api.OK {
		t.Errorf("%s: Next(%d) = %v, %d, want %v", what, len(l), got, e, l)
	}
}

func wantGet(t *testing.T, what string, p *pages.Pages, page int, bytes string) {
	t.Helper()
	if s, e := p.Get(page); s != bytes || e != api.OK {
		t.Errorf("%s: Get(%d) = %.6q of %d, %d, want %.6q of %d", what, page, s, len(s), e, bytes, len(bytes))
	}
}

func wantNone(t *testing.T, what string, p *pages.Pages, l ...int) {
	t.Helper()
	for _, page := range l {
		if s, e := p.Get(page); s != "" || e != api.ErrPagesNone {
			t.Errorf("%s: Get(%d) = %.6q, %d", what, page, s, e)
		}
	}
}

// model is what pages are to be.
type model struct {
	size int
	live map[int]string
	held map[int]string
	root int
	pins int
}

func newModel(size int) model {
	return model{size: size, live: map[int]string{}, held: map[int]string{}}
}

func (m model) copied() model {
	m.live, m.held = maps.Clone(m.live), maps.Clone(m.held)
	return m
}

// crashed is the model behind a crash: no pin is left.
func (m model) crashed() model {
	m = m.copied()
	clear(m.held)
	m.pins = 0
	return m
}

func (m model) free() []int {
	var l []int
	for page := 1; page <= m.size; page++ {
		_, live := m.live[page]
		_, held := m.held[page]
		if !live && !held {
			l = append(l, page)
		}
	}
	return l
}

// takes tells whether V5 lets a Put go.
func (m model) takes(l []api.Page, gone []int, root int) bool {
	free, roots := m.free(), []int{0}
	seen := map[int]int{}
	for _, x := range l {
		seen[x.Num]++
		if !slices.Contains(free, x.Num) || seen[x.Num] > 1 || len(x.Bytes) > 250 {
			return false
		}
		roots = append(roots, x.Num)
	}
	seen = map[int]int{}
	for _, page := range gone {
		seen[page]++
		if _, live := m.live[page]; !live || seen[page] > 1 {
			return false
		}
	}
	for page := range m.live {
		if !slices.Contains(gone, page) {
			roots = append(roots, page)
		}
	}
	return slices.Contains(roots, root)
}

// put is the model behind a Put that goes.
func (m model) put(l []api.Page, gone []int, root int) model {
	m = m.copied()
	for _, x := range l {
		m.live[x.Num] = x.Bytes
	}
	for _, page := range gone {
		if m.pins > 0 {
			m.held[page] = m.live[page]
		}
		delete(m.live, page)
	}
	m.root = root
	return m
}

func (m *model) unpin() {
	if m.pins > 0 {
		m.pins--
	}
	if m.pins == 0 {
		clear(m.held)
	}
}

// differs tells what of the pages is not as in the model; "": nothing.
func (m model) differs(p *pages.Pages) string {
	free := m.free()
	if p.Size() != m.size {
		return "V1: Size"
	}
	if p.Root() != m.root {
		return "V3: Root"
	}
	if p.Free() != len(free) || p.Free()+len(m.live)+len(m.held) != p.Size() {
		return "V3, P5.3: Free"
	}
	if l, e := p.Next(len(free)); !slices.Equal(l, free) || e != api.OK {
		return "V4: Next of all"
	}
	if l, e := p.Next(len(free) + 1); len(l) != 0 || e != api.ErrNoSpace {
		return "V4: Next of one more"
	}
	for page := -1; page <= m.size+2; page++ {
		want, e := m.live[page], api.OK
		if _, live := m.live[page]; !live {
			want = m.held[page]
			if _, held := m.held[page]; !held {
				e = api.ErrPagesNone
			}
		}
		if s, f := p.Get(page); s != want || f != e {
			return "V3, P5.2: Get"
		}
	}
	return ""
}

func (m model) want(t *testing.T, what string, p *pages.Pages) {
	t.Helper()
	if s := m.differs(p); s != "" {
		t.Fatalf("%s: %s: want live %v, held %v, root %d", what, s, slices.Sorted(maps.Keys(m.live)), slices.Sorted(maps.Keys(m.held)), m.root)
	}
}

// wantLost: all calls that have an error answer ErrDown, whatever they are given, and the others 0; nothing is written.
func wantLost(t *testing.T, what string, d *dev.Dev, p *pages.Pages) {
	t.Helper()
	waiting := d.Waiting()
	if p.Size() != 0 || p.Free() != 0 || p.Root() != 0 {
		t.Errorf("%s: Size %d, Free %d, Root %d", what, p.Size(), p.Free(), p.Root())
	}
	for _, page := range []int{-1, 0, 1, 2, 3, 9999} {
		if s, e := p.Get(page); s != "" || e != api.ErrDown {
			t.Errorf("%s: Get(%d): %.6q, %d", what, page, s, e)
		}
		if l, e := p.Next(page); len(l) != 0 || e != api.ErrDown {
			t.Errorf("%s: Next(%d): %v, %d", what, page, l, e)
		}
		want(t, what+": Put", p.Put([]api.Page{{Num: page, Bytes: "lost"}}, nil, page), api.ErrDown)
		want(t, what+": Put", p.Put(nil, []int{page}, 0), api.ErrDown)
	}
	want(t, what+": Put", p.Put(nil, nil, 0), api.ErrDown)
	p.Pin()
	p.Unpin()
	p.Unpin()
	if !slices.Equal(waiting, d.Waiting()) {
		t.Errorf("%s: lost pages wrote", what)
	}
}

// snapshot is all that is safe on a device, and what waits.
func snapshot(d *dev.Dev) string {
	var b strings.Builder
	for at := range d.Sectors() {
		s, _ := d.Safe(at)
		b.WriteString(s)
		if d.Up() {
			s, _ = d.Read(at)
			b.WriteString(s)
		}
	}
	return b.String()
}

// steps is how many writes and syncs a call does on a device.
func steps(t *testing.T, d *dev.Dev, call func()) int {
	t.Helper()
	d.Fuse(mostSteps)
	call()
	for n := range mostSteps {
		if !d.Up() {
			return mostSteps - n
		}
		d.Sync()
	}
	t.Fatal("more steps than a call may need")
	return 0
}

// masks are what a crash lets survive: nothing, all, each sector alone, all but each, and some.
func masks(r *rand.Rand, waiting int) []string {
	l := []string{"", strings.Repeat("\x01", waiting)}
	for i := range waiting {
		one, rest := make([]byte, waiting), make([]byte, waiting)
		for j := range waiting {
			rest[j] = 1
		}
		one[i], rest[i] = 1, 0
		l = append(l, string(one), string(rest))
	}
	for range 6 {
		b := make([]byte, waiting)
		for i := range b {
			b[i] = byte(r.Intn(256))
		}
		l = append(l, string(b))
	}
	return l
}

func TestNew(t *testing.T) {
	if p, e := pages.New(nil); p != nil || e != api.ErrArg {
		t.Errorf("V1: New(nil): %v, %d", p, e)
	}
	for sectors := api.MinSectors; sectors <= 300; sectors++ {
		wantNew(t, sectors)
	}
	for _, sectors := range []int{1000, 1001, 4096, 8190, 8191, 8192} {
		wantNew(t, sectors)
	}
}

func wantNew(t *testing.T, sectors int) {
	t.Helper()
	d := newDev(t, sectors)
	d.Fuse(1)
	p, e := pages.New(d)
	if p == nil {
		if e != api.ErrNoSpace || sectors >= 52 {
			t.Errorf("V1: New of %d sectors: %d", sectors, e)
		}
		return
	}
	if e != api.OK || sectors < 32 {
		t.Errorf("V1: New of %d sectors: %d", sectors, e)
	}
	if p.Size() < 1 || p.Size() < (sectors-48)/4 || p.Size() > sectors*api.Sector/api.PageBytes {
		t.Errorf("V1: %d sectors: Size %d", sectors, p.Size())
	}
	if p.Free() != p.Size() || p.Root() != 0 {
		t.Errorf("V1: %d sectors: Free %d of %d, Root %d", sectors, p.Free(), p.Size(), p.Root())
	}
	if !d.Up() || len(d.Waiting()) != 0 {
		t.Errorf("V1: %d sectors: New wrote", sectors)
	}
}

// noRoom is how many sectors the greatest device has that has room for a journal, but not for a page; 31, if there is none.
func noRoom(t *testing.T) int {
	t.Helper()
	sectors := 31
	for ; sectors < 52; sectors++ {
		if _, e := pages.New(newDev(t, sectors+1)); e == api.OK {
			return sectors
		}
	}
	t.Fatalf("V1: there is no room for a page on %d sectors", sectors)
	return 0
}

// Of several errors the one that is named first is the answer.
func TestBeginErrors(t *testing.T) {
	for _, begin := range []func(*dev.Dev) (*pages.Pages, api.Errno){pages.New, pages.Open} {
		if p, e := begin(nil); p != nil || e != api.ErrArg {
			t.Errorf("V1, V2: nil: %d", e)
		}
		for _, sectors := range []int{8, 31, 100} {
			d := newDev(t, sectors)
			d.Write(3, strings.Repeat("x", 64))
			d.Fuse(0)
			if p, e := begin(d); p != nil || e != api.ErrDown {
				t.Errorf("V1, V2: %d sectors, down: %d", sectors, e)
			}
		}
		for _, sectors := range []int{8, 31, noRoom(t)} {
			d := newDev(t, sectors)
			if p, e := begin(d); p != nil || e != api.ErrNoSpace {
				t.Errorf("V1, V2: %d sectors: %d", sectors, e)
			}
			for at := range sectors {
				d.Write(at, strings.Repeat("x", 64))
			}
			if p, e := begin(d); p != nil || e != api.ErrNoSpace {
				t.Errorf("V1, V2: %d sectors, not empty: %d", sectors, e)
			}
		}
	}
}

func TestNewOnWhatIsNotEmpty(t *testing.T) {
	for at := range 100 {
		d := newDev(t, 100)
		d.Write(at, strings.Repeat("\x00", 63)+"\x01")
		if p, e := pages.New(d); p != nil || e != api.ErrPagesForm {
			t.Errorf("V1: sector %d waits: %d", at, e)
		}
		d.Sync()
		if p, e := pages.New(d); p != nil || e != api.ErrPagesForm {
			t.Errorf("V1: sector %d is not 0: %d", at, e)
		}
		d.Write(at, strings.Repeat("\x00", 64))
		if p, e := pages.New(d); p != nil || e != api.ErrPagesForm {
			t.Errorf("V1: zeros wait for sector %d: %d", at, e)
		}
	}
}

func TestOpenOfAnEmptyDevice(t *testing.T) {
	for _, sectors := range []int{52, 100, 101, 8192} {
		d := newDev(t, sectors)
		p := open(t, d)
		q, _ := pages.New(newDev(t, sectors))
		newModel(q.Size()).want(t, "V2: empty", p)
		if len(d.Waiting()) != 0 {
			t.Error("V2: Open of an empty device wrote")
		}
	}
}

// TestExample1 and those behind it are the chapter's own.
func TestExample1(t *testing.T) {
	d, p := newPages(t, 100)
	if p.Size() < 13 {
		t.Errorf("Size %d", p.Size())
	}
	wantNext(t, "new", p, 1, 2)
	want(t, "Put", p.Put([]api.Page{{Num: 1, Bytes: "a"}, {Num: 2, Bytes: "b"}}, nil, 1), api.OK)
	wantNext(t, "Put", p, 3)
	want(t, "Put", p.Put([]api.Page{{Num: 3, Bytes: "c"}}, []int{2}, 3), api.OK)
	wantNext(t, "gone", p, 2)
	d.Crash("")
	wantNext(t, "opened", open(t, d), 2, 4)
}

func TestExample2(t *testing.T) {
	_, p := newPages(t, 100)
	p.Put([]api.Page{{Num: 1, Bytes: "a"}}, nil, 1)
	p.Pin()
	want(t, "Put", p.Put(nil, []int{1}, 0), api.OK)
	wantGet(t, "held", p, 1, "a")
	wantNext(t, "held", p, 2)
	p.Unpin()
	wantNone(t, "free", p, 1)
	wantNext(t, "free", p, 1)
}

func TestExample3(t *testing.T) {
	_, p := newPages(t, 100)
	p.Put([]api.Page{{Num: 1}}, nil, 1)
	want(t, "twice", p.Put([]api.Page{{Num: 2}, {Num: 2}}, nil, 1), api.ErrArg)
	want(t, "live", p.Put([]api.Page{{Num: 1}}, nil, 1), api.ErrArg)
	want(t, "long", p.Put([]api.Page{{Num: 2, Bytes: mark(1, 251)}}, nil, 1), api.ErrArg)
	want(t, "free root", p.Put([]api.Page{{Num: 2}}, nil, 3), api.ErrArg)
}

// standing is pages of which 1 and 2 are live, 2 the root, 3 held; the model of them beside.
func standing(t *testing.T) (*dev.Dev, *pages.Pages, model) {
	t.Helper()
	d, p := newPages(t, 100)
	l := []api.Page{{Num: 1, Bytes: mark(1, 250)}, {Num: 2, Bytes: "two"}, {Num: 3, Bytes: mark(3, 64)}}
	want(t, "Put", p.Put(l, nil, 1), api.OK)
	p.Pin()
	want(t, "Put", p.Put(nil, []int{3}, 2), api.OK)
	m := newModel(p.Size()).put(l, nil, 1)
	m.pins = 1
	m = m.put(nil, []int{3}, 2)
	m.want(t, "standing", p)
	return d, p, m
}

func TestPutRefused(t *testing.T) {
	d, p, m := standing(t)
	last := p.Size()
	before := snapshot(d)
	for name, e := range map[string]api.Errno{
		"put 0":              p.Put([]api.Page{{Num: 0}}, nil, 2),
		"put -1":             p.Put([]api.Page{{Num: -1}}, nil, 2),
		"put behind the end": p.Put([]api.Page{{Num: last + 1}}, nil, 2),
		"put the greatest":   p.Put([]api.Page{{Num: math.MaxInt}}, nil, 2),
		"put the least":      p.Put([]api.Page{{Num: math.MinInt}}, nil, 2),
		"put a live one":     p.Put([]api.Page{{Num: 4}, {Num: 1}}, nil, 2),
		"put a held one":     p.Put([]api.Page{{Num: 3}}, nil, 2),
		"put one that goes":  p.Put([]api.Page{{Num: 1}}, []int{1}, 2),
		"put twice":          p.Put([]api.Page{{Num: 4}, {Num: 5}, {Num: 4}}, nil, 2),
		"put 251 bytes":      p.Put([]api.Page{{Num: 4}, {Num: 5, Bytes: mark(5, 251)}}, nil, 2),
		"put 256 bytes":      p.Put([]api.Page{{Num: 4, Bytes: mark(5, 256)}}, nil, 2),
		"put 9999 bytes":     p.Put([]api.Page{{Num: 4, Bytes: mark(5, 9999)}}, nil, 2),
		"gone 0":             p.Put(nil, []int{0}, 2),
		"gone -1":            p.Put(nil, []int{-1}, 2),
		"gone behind":        p.Put(nil, []int{last + 1}, 2),
		"gone the greatest":  p.Put(nil, []int{math.MaxInt}, 2),
		"gone the least":     p.Put(nil, []int{math.MinInt}, 2),
		"gone free":          p.Put(nil, []int{4}, 2),
		"gone held":          p.Put(nil, []int{3}, 2),
		"gone put":           p.Put([]api.Page{{Num: 4}}, []int{4}, 2),
		"gone twice":         p.Put(nil, []int{1, 1}, 2),
		"root gone":          p.Put(nil, []int{2}, 2),
		"root free":          p.Put(nil, nil, 4),
		"root held":          p.Put(nil, nil, 3),
		"root -1":            p.Put(nil, nil, -1),
		"root behind":        p.Put(nil, nil, last+1),
		"root far behind":    p.Put(nil, nil, 65536+2),
		"root the greatest":  p.Put(nil, nil, math.MaxInt),
		"root the least":     p.Put(nil, nil, math.MinInt),
	} {
		if e != api.ErrArg {
			t.Errorf("V5: %s: %d", name, e)
		}
	}
	m.want(t, "P5.4", p)
	if l, e := p.Next(-1); l != nil || e != api.ErrArg {
		t.Errorf("V4: Next(-1): %v, %d", l, e)
	}
	if l, e := p.Next(math.MinInt); l != nil || e != api.ErrArg {
		t.Errorf("V4: Next of the least: %v, %d", l, e)
	}
	if l, e := p.Next(math.MaxInt); l != nil || e != api.ErrNoSpace {
		t.Errorf("V4: Next of the greatest: %v, %d", l, e)
	}
	if snapshot(d) != before || len(d.Waiting()) > 0 {
		t.Error("P5.4: something was written")
	}
	d.Fuse(1)
	p.Put(nil, []int{1, 1}, 2)
	p.Put([]api.Page{{Num: 4}}, nil, 5)
	p.Next(last)
	if !d.Up() {
		t.Error("P5.4: the fuse counted a call that was refused")
	}
}

func TestRoots(t *testing.T) {
	_, p, m := standing(t)
	for i, x := range []struct {
		l    []api.Page
		gone []int
		root int
	}{
		{nil, nil, 1}, // live
		{[]api.Page{{Num: 4, Bytes: "four"}}, nil, 4}, // put
		{nil, []int{4}, 0}, // none
		{nil, nil, 0},      // the same
		{[]api.Page{{Num: 5, Bytes: "five"}}, []int{1, 2}, 5},   // put, while others go
		{[]api.Page{{Num: 6}, {Num: m.size}}, []int{5}, m.size}, // the last one
		{nil, nil, 6}, // live, and of no byte
	} {
		want(t, "V5: Put", p.Put(x.l, x.gone, x.root), api.OK)
		m = m.put(x.l, x.gone, x.root)
		m.want(t, "V5: "+string(rune('0'+i)), p)
	}
}

func TestGetNone(t *testing.T) {
	_, p, m := standing(t)
	wantNone(t, "V3", p, 0, -1, 4, m.size, m.size+1, math.MaxInt, math.MinInt)
}

// Pages of any bytes, of any length that is allowed, are what they were; also in a place where a longer one stood.
func TestLengths(t *testing.T) {
	d, p := newPages(t, 100)
	for n := api.PageBytes; n >= 0; n-- {
		m := newModel(p.Size()).put([]api.Page{{Num: 1, Bytes: mark(n, n)}, {Num: 2, Bytes: mark(n+1, 250-n)}}, nil, 1)
		want(t, "V5", p.Put([]api.Page{{Num: 1, Bytes: m.live[1]}, {Num: 2, Bytes: m.live[2]}}, nil, 1), api.OK)
		m.want(t, "V3", p)
		d.Crash("")
		p = open(t, d)
		m.want(t, "P5.1", p)
		want(t, "V5", p.Put(nil, []int{1, 2}, 0), api.OK)
		newModel(p.Size()).want(t, "P5.5", p)
	}
}

func TestAllPages(t *testing.T) {
	for _, sectors := range []int{52, 100, 600, 8192} {
		d, p := newPages(t, sectors)
		m := newModel(p.Size())
		numbers, e := p.Next(p.Size())
		want(t, "V4", e, api.OK)
		var l []api.Page
		for _, page := range numbers {
			l = append(l, api.Page{Num: page, Bytes: mark(page, 250)})
		}
		want(t, "V5: all", p.Put(l, nil, p.Size()), api.OK)
		m = m.put(l, nil, p.Size())
		m.want(t, "V5: all", p)
		if l, e := p.Next(0); len(l) != 0 || e != api.OK {
			t.Errorf("V4: Next(0): %v, %d", l, e)
		}
		d.Crash("")
		p = open(t, d)
		m.want(t, "P5.1: all", p)
		want(t, "V5: none", p.Put(nil, numbers, 0), api.OK)
		newModel(p.Size()).want(t, "P5.5: none", p)
	}
}

func TestPins(t *testing.T) {
	d, p, m := standing(t)
	p.Unpin()
	m.unpin()
	m.want(t, "V6: the only pin", p)
	p.Unpin() // there is none: the next Pin counts, all the same
	p.Pin()
	p.Pin()
	m.pins = 2
	want(t, "Put", p.Put([]api.Page{{Num: 3, Bytes: "new"}}, []int{1}, 3), api.OK)
	m = m.put([]api.Page{{Num: 3, Bytes: "new"}}, []int{1}, 3)
	m.want(t, "V6: two pins", p)
	p.Unpin()
	m.unpin()
	m.want(t, "V6: one pin", p)
	p.Pin()
	m.pins++
	want(t, "Put", p.Put(nil, []int{2}, 3), api.OK)
	m = m.put(nil, []int{2}, 3)
	m.want(t, "V6: a pin within a pin", p)
	p.Unpin()
	m.unpin()
	m.want(t, "V6: the outer pin", p)
	c := d.Copy()
	m.crashed().want(t, "V2: without a pin", open(t, c))
	p.Unpin()
	m.unpin()
	m.want(t, "V6: no pin", p)
	want(t, "Put", p.Put(nil, []int{3}, 0), api.OK)
	newModel(p.Size()).want(t, "V6: gone without a pin", p)
}

// What is handed in is not kept, and what is answered is new.
func TestOwnMemory(t *testing.T) {
	_, p, m := standing(t)
	l, gone := []api.Page{{Num: 4, Bytes: "four"}}, []int{1}
	want(t, "Put", p.Put(l, gone, 4), api.OK)
	m = m.put(l, gone, 4)
	if l[0] != (api.Page{Num: 4, Bytes: "four"}) || gone[0] != 1 {
		t.Error("R5: Put changed what it was given")
	}
	l[0], gone[0] = api.Page{Num: 7, Bytes: "x"}, 9
	next, _ := p.Next(3)
	for i := range next[:cap(next)] {
		next[:cap(next)][i] = 1
	}
	m.want(t, "R5", p)
}

func TestLost(t *testing.T) {
	for name, call := range map[string]func(*pages.Pages){
		"Size":  func(p *pages.Pages) { p.Size() },
		"Free":  func(p *pages.Pages) { p.Free() },
		"Root":  func(p *pages.Pages) { p.Root() },
		"Get":   func(p *pages.Pages) { p.Get(1) },
		"Next":  func(p *pages.Pages) { p.Next(1) },
		"Put":   func(p *pages.Pages) { p.Put(nil, nil, 1) },
		"Pin":   func(p *pages.Pages) { p.Pin() },
		"Unpin": func(p *pages.Pages) { p.Unpin() },
	} {
		d, p, m := standing(t)
		d.Fuse(0)
		call(p)
		d.Fuse(-1)
		wantLost(t, name+" while it was down", d, p)
		m.crashed().want(t, name+", opened", open(t, d))
	}
	d, p, m := standing(t)
	d.Fuse(0)
	wantLost(t, "down", d, p)
	d, p, m = standing(t)
	d.Fuse(0)
	d.Fuse(-1)
	m.want(t, "no call while it was down", p)
	d.Crash("")
	wantLost(t, "crashed", d, p)
	m.crashed().want(t, "opened", open(t, d))
}

// A Put that answers OK loses nothing, also where its last write burnt the fuse; one that answers ErrDown does.
func TestPutBurnsTheFuse(t *testing.T) {
	put := func(p *pages.Pages) api.Errno { return p.Put([]api.Page{{Num: 4, Bytes: "four"}}, []int{1}, 4) }
	d, p, m := standing(t)
	c := d.Copy()
	q := open(t, c)
	n := steps(t, c, func() { put(q) })
	d.Fuse(n)
	want(t, "Put", put(p), api.OK)
	if d.Up() {
		t.Fatal("the fuse is not burnt")
	}
	d.Fuse(-1)
	m.put([]api.Page{{Num: 4, Bytes: "four"}}, []int{1}, 4).want(t, "burnt by the last write", p)
	d, p, _ = standing(t)
	d.Fuse(n - 1)
	want(t, "Put", put(p), api.ErrDown)
	d.Fuse(-1)
	wantLost(t, "ErrDown on the way", d, p)
}

// put is a Put with which every kind of change comes: pages of all lengths put, some gone, a new root.
type put struct {
	l    []api.Page
	gone []int
	root int
}

func (x put) do(p *pages.Pages) api.Errno { return p.Put(x.l, x.gone, x.root) }

func (x put) on(m model) model { return m.put(x.l, x.gone, x.root) }

// stood is a device whose pages of either place of the marks are used, and the model of it.
func stood(t *testing.T) (*dev.Dev, model) {
	t.Helper()
	d, p := newPages(t, 2400)
	m := newModel(p.Size())
	var l []api.Page
	for page := 1; page <= p.Size(); page++ {
		if page%60 == 1 {
			l = append(l, api.Page{Num: page, Bytes: mark(page, page%251)})
		}
	}
	want(t, "Put", p.Put(l, nil, 1), api.OK)
	return d, m.put(l, nil, 1)
}

// TestEveryPoint: a fuse of every number ahead of a Put, and each kind of survival.
func TestEveryPoint(t *testing.T) {
	r := rand.New(rand.NewSource(5))
	d, m := stood(t)
	far := 513 // its mark stands in another sector than the first ones do
	for name, x := range map[string]put{
		"put":           {[]api.Page{{Num: 2, Bytes: mark(7, 250)}, {Num: far, Bytes: mark(8, 100)}}, nil, 1},
		"put and gone":  {[]api.Page{{Num: 2, Bytes: mark(7, 250)}, {Num: 3}}, []int{1, 61, 481, 541}, 3},
		"gone":          {nil, []int{1, 541}, 61},
		"all gone":      {nil, slices.Sorted(maps.Keys(m.live)), 0},
		"root":          {nil, nil, 61},
		"nothing":       {nil, nil, 1},
		"root and page": {[]api.Page{{Num: far, Bytes: mark(9, 64)}}, nil, far},
	} {
		after := x.on(m)
		c := d.Copy()
		q := open(t, c)
		n := steps(t, c, func() { want(t, name, x.do(q), api.OK) })
		for fuse := range n + 1 {
			cut := d.Copy()
			q := open(t, cut)
			cut.Fuse(fuse)
			e := x.do(q)
			if e != api.OK && (e != api.ErrDown || fuse >= n) || e == api.OK && fuse < n {
				t.Fatalf("V5: %s: fuse %d of %d: %d", name, fuse, n, e)
			}
			for _, mask := range masks(r, len(cut.Waiting())) {
				c := cut.Copy()
				c.Crash(mask)
				wantEither(t, name, c, m, after, e)
				wantEither(t, name+", opened again", c, m, after, e)
				c.Crash("")
				wantEither(t, name+", and crashed again", c, m, after, e)
			}
			cut.Fuse(-1)
			wantEither(t, name+", without a crash", cut, m, after, e)
		}
	}
}

// wantEither: an Open finds what was ahead of a Put or, if it was answered, what is behind it; all of that.
func wantEither(t *testing.T, what string, d *dev.Dev, ahead, behind model, e api.Errno) {
	t.Helper()
	p := open(t, d)
	if behind.differs(p) == "" {
		return
	}
	if s := ahead.differs(p); s != "" || e == api.OK {
		t.Fatalf("P5.1: %s: %s, the Put answered %d", what, s, e)
	}
}

// TestOpenCutOff: Opens that are cut off change nothing of what the Open behind them finds.
func TestOpenCutOff(t *testing.T) {
	r := rand.New(rand.NewSource(6))
	d, m := stood(t)
	x := put{[]api.Page{{Num: 2, Bytes: mark(7, 250)}, {Num: 3}}, []int{1, 541}, 3}
	after := x.on(m)
	c := d.Copy()
	q := open(t, c)
	n := steps(t, c, func() { x.do(q) })
	for fuse := range n {
		cut := d.Copy()
		q := open(t, cut)
		cut.Fuse(fuse)
		want(t, "Put", x.do(q), api.ErrDown)
		cut.Crash(string([]byte{byte(r.Intn(2)), byte(r.Intn(2)), 1, byte(r.Intn(2))}))
		found := m
		if after.differs(open(t, cut.Copy())) == "" {
			found = after
		}
		for opening := range mostSteps {
			c := cut.Copy()
			c.Fuse(opening)
			p, e := pages.Open(c)
			if e == api.OK {
				c.Fuse(-1)
				found.want(t, "V2", p)
				break
			}
			if p != nil || e != api.ErrDown {
				t.Fatalf("V2: cut off: %d", e)
			}
			for _, mask := range masks(r, len(c.Waiting())) {
				c := c.Copy()
				c.Crash(mask)
				found.want(t, "P5.1: an Open was cut off", open(t, c))
			}
		}
	}
}

// TestWalk: Puts of all kinds, good and bad, pins, crashes, against the model.
func TestWalk(t *testing.T) {
	for seed := range int64(20) {
		r := rand.New(rand.NewSource(seed))
		d, p := newPages(t, 52+r.Intn(120))
		m := newModel(p.Size())
		for range 300 {
			x := anyPut(r, m)
			switch r.Intn(12) {
			case 0:
				p.Pin()
				m.pins++
			case 1, 2:
				p.Unpin()
				m.unpin()
			case 3:
				d.Crash("\x01")
				p, m = open(t, d), m.crashed()
			case 4:
				if m.takes(x.l, x.gone, x.root) {
					p, m = cutPut(t, r, d, p, m, x)
				}
			default:
				if m.takes(x.l, x.gone, x.root) {
					want(t, "V5", x.do(p), api.OK)
					m = x.on(m)
				} else {
					want(t, "V5", x.do(p), api.ErrArg)
				}
			}
			m.want(t, "walk", p)
		}
	}
}

// cutPut is a Put that a fuse cuts off, a crash, and an Open.
func cutPut(t *testing.T, r *rand.Rand, d *dev.Dev, p *pages.Pages, m model, x put) (*pages.Pages, model) {
	t.Helper()
	d.Fuse(r.Intn(30))
	e := x.do(p)
	mask := make([]byte, r.Intn(20))
	r.Read(mask)
	d.Crash(string(mask))
	p = open(t, d)
	ahead, behind := m.crashed(), x.on(m).crashed()
	if e == api.OK || behind.differs(p) == "" {
		return p, behind
	}
	return p, ahead
}

// anyPut is a Put that may be good: mostly of free pages, with live ones that go.
func anyPut(r *rand.Rand, m model) put {
	var x put
	free, live := m.free(), slices.Sorted(maps.Keys(m.live))
	for range r.Intn(4) {
		if len(free) > 0 {
			x.l = append(x.l, api.Page{Num: free[r.Intn(len(free))], Bytes: mark(r.Intn(99), r.Intn(251))})
		}
	}
	for range r.Intn(4) {
		if len(live) > 0 {
			x.gone = append(x.gone, live[r.Intn(len(live))])
		}
	}
	roots := append([]int{0}, live...)
	for _, y := range x.l {
		roots = append(roots, y.Num)
	}
	x.root = roots[r.Intn(len(roots))]
	if r.Intn(10) == 0 {
		x.root = r.Intn(m.size + 2)
	}
	return x
}

// TestStrangeDevices: whatever stands on a device, calls end, and none panics.
func TestStrangeDevices(t *testing.T) {
	for seed := range int64(400) {
		r := rand.New(rand.NewSource(seed))
		d, p := newPages(t, 100)
		p.Put([]api.Page{{Num: 1, Bytes: mark(1, 250)}, {Num: 2, Bytes: "b"}}, nil, 1)
		for range 1 + r.Intn(4) {
			b := make([]byte, 64)
			for range r.Intn(64) {
				b[r.Intn(64)] = byte(r.Intn(256))
			}
			at := r.Intn(100)
			if r.Intn(2) == 0 {
				at = r.Intn(6)
			}
			d.Write(at, string(b))
		}
		try(p)
		q, e := pages.Open(d)
		if q == nil {
			want(t, "V2", e, api.ErrPagesForm)
			continue
		}
		try(q)
	}
}

func try(p *pages.Pages) {
	for page := -1; page < 40; page++ {
		p.Get(page)
	}
	l, _ := p.Next(2)
	if len(l) == 2 {
		p.Put([]api.Page{{Num: l[0], Bytes: "x"}, {Num: l[1], Bytes: mark(1, 250)}}, []int{1}, l[1])
		p.Put(nil, l, 0)
	}
}

// TestApart: pages on two devices know nothing of one another.
func TestApart(t *testing.T) {
	d, p, m := standing(t)
	c, q, n := standing(t)
	want(t, "Put", p.Put([]api.Page{{Num: 4, Bytes: "four"}}, []int{1}, 4), api.OK)
	n.want(t, "the other one", q)
	c.Crash("")
	m.put([]api.Page{{Num: 4, Bytes: "four"}}, []int{1}, 4).want(t, "this one", p)
	d.Crash("")
	n.crashed().want(t, "the other one", open(t, c))
}
