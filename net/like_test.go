package net

import (
	"math/rand"
	"testing"
	"unsafe"

	"oxbow/api"
)

// TestLike: the net counts just the letters that are there, and has one Text of those that are alike.
func TestLike(t *testing.T) {
	for seed := range int64(50) {
		r := rand.New(rand.NewSource(seed))
		n, _ := New(1 + r.Intn(20))
		for range 200 {
			switch i := r.Intn(1 + n.Len()); r.Intn(3) {
			case 0:
				n.Send(api.Letter{To: r.Intn(2), Text: string([]byte{'a', byte('a' + r.Intn(3))})})
			case 1:
				n.Double(i)
			case 2:
				n.Take(i)
			}
			wantLike(t, n)
		}
	}
}

func wantLike(t *testing.T, n *Net) {
	t.Helper()
	count := map[api.Letter]int{}
	kept := map[api.Letter]*byte{}
	for _, l := range n.row {
		at := unsafe.StringData(l.Text)
		if count[l]++; count[l] > 1 && kept[l] != at {
			t.Fatalf("%v has two Texts", l)
		}
		kept[l] = at
	}
	if len(count) != len(n.like) {
		t.Fatalf("%v is counted, of %v", n.like, n.row)
	}
	for l, k := range count {
		if n.like[l] != k {
			t.Fatalf("%d of %v are counted, of %d", n.like[l], l, k)
		}
	}
	for _, l := range n.row[len(n.row):cap(n.row)] {
		if l != (api.Letter{}) {
			t.Fatalf("%v was taken, and is kept", l)
		}
	}
}
