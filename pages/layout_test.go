package pages

import (
	"strings"
	"testing"

	"oxbow/api"
	"oxbow/dev"
	"oxbow/wal"
)

// What no pages wrote need not be told; but to go on from it would harm.
func TestFormIsTold(t *testing.T) {
	good := func() *dev.Dev {
		d, _ := dev.New(100)
		p, _ := New(d)
		if e := p.Put([]api.Page{{Num: 1, Bytes: "a"}, {Num: p.size, Bytes: "b"}}, nil, p.size); e != api.OK {
			t.Fatalf("V5: %d", e)
		}
		return d
	}
	if _, e := Open(good()); e != api.OK {
		t.Fatalf("V2: %d", e)
	}
	size := room(good())
	free, first, behind, far := marked(1, size), marked(0, 1, size), marked(1, size, size+1), marked(1, size, 2047)
	for name, x := range map[string]api.Write{
		"a root that is free":      writeOf(rootSector, rootBlock(2)),
		"a root behind the end":    writeOf(rootSector, rootBlock(size+1)),
		"a root far behind it":     writeOf(rootSector, rootBlock(65535)),
		"a byte behind the root":   writeOf(rootSector, block{0, 1, 1}),
		"a byte far behind it":     writeOf(rootSector, block{0, 1, 63: 1}),
		"a mark of page 0":         writeOf(firstMarks, first[0]),
		"a mark behind the end":    writeOf(firstMarks, behind[0]),
		"a mark in the last place": writeOf(firstMarks+3, far[3]),
		"no mark of the root":      writeOf(firstMarks, block{}),
	} {
		d := good()
		w, _ := wal.Open(d)
		if e := w.Commit([]api.Write{x}); e != api.OK {
			t.Fatalf("%s: %d", name, e)
		}
		if p, e := Open(d); p != nil || e != api.ErrPagesForm {
			t.Errorf("V2: %s: %d", name, e)
		}
		// It is told by the one thing alone.
		w.Commit([]api.Write{writeOf(rootSector, rootBlock(size)), writeOf(firstMarks, free[0]), writeOf(firstMarks+3, block{})})
		if _, e := Open(d); e != api.OK {
			t.Errorf("V2: %s, undone: %d", name, e)
		}
	}
}

func marked(l ...int) marks {
	var m marks
	for _, page := range l {
		m.set(page)
	}
	return m
}

// The least device has room for one page, the one ahead of it for none.
func TestLeastRoom(t *testing.T) {
	sectors := api.WalMin + firstPage + pageSectors
	d, _ := dev.New(sectors - 1)
	if p, e := New(d); p != nil || e != api.ErrNoSpace {
		t.Errorf("V1: %d sectors: %d", sectors-1, e)
	}
	d, _ = dev.New(sectors)
	p, e := New(d)
	if e != api.OK || p.Size() != 1 {
		t.Fatalf("V1: %d sectors: %d", sectors, e)
	}
	if e := p.Put([]api.Page{{Num: 1, Bytes: strings.Repeat("x", api.PageBytes)}}, nil, 1); e != api.OK || p.Free() != 0 {
		t.Errorf("V5: %d sectors: %d", sectors, e)
	}
}

// A device that no journal can be opened on has no pages.
func TestNoJournal(t *testing.T) {
	d, _ := dev.New(100)
	for at := range 100 {
		d.Write(at, strings.Repeat("\xff", 64))
	}
	if _, e := wal.Open(d); e != api.ErrWalForm {
		t.Fatalf("W2: %d", e)
	}
	if p, e := Open(d); p != nil || e != api.ErrPagesForm {
		t.Errorf("V2: %d", e)
	}
}

// The marks have a bit of its own for each page of the greatest device, and no two pages share a sector.
func TestPlaces(t *testing.T) {
	d, _ := dev.New(api.MaxSectors)
	w, _ := wal.New(d)
	var m marks
	for page := 1; page <= room(d); page++ {
		if m.has(page) {
			t.Fatalf("page %d shares its bit", page)
		}
		m.set(page)
		if !m.has(page) {
			t.Fatalf("page %d has no bit", page)
		}
		if home(page+1)-home(page) < (1+api.PageBytes+api.Sector-1)/api.Sector {
			t.Fatalf("page %d has too few sectors", page)
		}
	}
	if home(1) != firstPage || home(room(d)+1) > w.Size() {
		t.Errorf("pages from %d to %d of %d", home(1), home(room(d)+1), w.Size())
	}
	for page := 1; page <= room(d); page++ {
		m.clear(page)
	}
	if m != (marks{}) {
		t.Error("bits are left")
	}
}
