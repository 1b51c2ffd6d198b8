package wal

import (
	"slices"
	"testing"

	"oxbow/api"
	"oxbow/dev"
)

// What no journal wrote need not be told; but to redo it would harm.
func TestHeadings(t *testing.T) {
	d, _ := dev.New(8192)
	w, _ := New(d)
	var most []int
	for i := range 24 {
		most = append(most, 300*i)
	}
	for _, sectors := range [][]int{nil, {0}, {255, 256}, {w.Size() - 1}, most} {
		if l, ok := w.sectorsOf(headingOf(sectors)); !slices.Equal(l, sectors) || !ok {
			t.Errorf("%v: %v, %v", sectors, l, ok)
		}
	}
	for _, sectors := range [][]int{{w.Size()}, {0, 8191}, {65535}, {1, 1}, {2, 1}, append(most, 8000)} {
		if l, ok := w.sectorsOf(headingOf(sectors)); ok {
			t.Errorf("%v: %v", sectors, l)
		}
	}
	for _, sectors := range [][]int{nil, {0}, most} {
		head := headingOf(sectors)
		head[len(head)-1] = 1
		if l, ok := w.sectorsOf(head); ok {
			t.Errorf("with a byte behind: %v", l)
		}
	}
}

// TestOpenLeavesWhatIsNone: a device that is none of a journal's is not written to.
func TestOpenLeavesWhatIsNone(t *testing.T) {
	d, _ := dev.New(64)
	w, _ := New(d)
	head := headingOf([]int{2, 1})
	put(d, w.heading(), head)
	d.Fuse(1)
	if v, e := Open(d); v != nil || e != api.ErrWalForm || !d.Up() {
		t.Errorf("W2: %d", e)
	}
}
