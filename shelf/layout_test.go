package shelf

import (
	"testing"

	"oxbow/api"
	"oxbow/dev"
)

// What no shelf wrote need not be told; but what is told is not read as a text.
func TestHeadings(t *testing.T) {
	for _, sectors := range []int{8, 9, 40, 8192} {
		d, _ := dev.New(sectors)
		s, _ := New(d)
		room := s.Room()
		for place := range 2 {
			for _, length := range []int{0, 1, 255, 256, room - 1, room} {
				h := heading{place: place, length: length}
				if length <= room && told(d, h.bytes()) {
					t.Errorf("%d sectors: %v is no heading", sectors, h)
				}
			}
		}
		for _, h := range []heading{{2, 0}, {255, 1}, {0, room + 1}, {1, room + 1}, {1, 65535}} {
			if !told(d, h.bytes()) {
				t.Errorf("%d sectors: %v is a heading", sectors, h)
			}
		}
		for at := 3; at < api.Sector; at++ {
			b := heading{place: 1, length: 5}.bytes()
			b[at] = 1
			if !told(d, b) {
				t.Errorf("a heading with a byte at %d", at)
			}
		}
	}
}

// told tells whether an Open of a device with such a first sector answers ErrShelfForm, with that waiting and safe, and writes nothing.
func told(d *dev.Dev, b block) bool {
	c := d.Copy()
	c.Write(0, string(b[:]))
	c.Fuse(1)
	_, e := Open(c)
	waited := e == api.ErrShelfForm && c.Up() && len(c.Waiting()) == 1
	c.Fuse(-1)
	c.Sync()
	s, e := Open(c)
	return waited && s == nil && e == api.ErrShelfForm
}

// TestPlaces: the heading and the two places have no sector in common, and all are on the device.
func TestPlaces(t *testing.T) {
	for sectors := api.MinSectors; sectors <= api.MaxSectors; sectors++ {
		d, _ := dev.New(sectors)
		s := on(d)
		places, each := s.places(), s.each()
		if places[0] < 1 || places[1] < places[0]+each || places[1]+each > sectors || each*api.Sector < s.room() {
			t.Fatalf("%d sectors: places of %d at %v", sectors, each, places)
		}
	}
}
