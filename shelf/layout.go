package shelf

import (
	"strings"

	"oxbow/api"
)

// The first sector is the heading; behind it come two places for a text. The heading says in which of both the text stands: the other one is free, and the next text goes there. As a sector is written wholly or not at all, one of both texts is there at any time. On an empty device the heading says: the empty text, in the first place.

// block is the bytes of a sector.
type block [api.Sector]byte

// heading says in which place the text stands, and how many bytes it has.
type heading struct {
	place  int
	length int
}

// bytes are a heading as a sector.
func (h heading) bytes() block {
	return block{byte(h.place), byte(h.length >> 8), byte(h.length)}
}

// headingOf is the heading of which a sector is the bytes, as far as it is one.
func headingOf(b block) heading {
	return heading{place: int(b[0]), length: int(b[1])<<8 | int(b[2])}
}

// places are the sectors at which the two places begin.
func (s *Shelf) places() [2]int { return [2]int{1, 1 + s.each()} }

// each is how many sectors a place has.
func (s *Shelf) each() int { return (s.d.Sectors() - 1) / 2 }

// room is how many bytes of a text a place takes.
func (s *Shelf) room() int { return min(s.each()*api.Sector, api.MaxShelf) }

// empty tells whether nothing waits, and all sectors are zeros.
func (s *Shelf) empty() bool {
	if len(s.d.Waiting()) > 0 {
		return false
	}
	for at := range s.d.Sectors() {
		if s.read(at) != (block{}) {
			return false
		}
	}
	return true
}

// heading is the one that the device has.
func (s *Shelf) heading() heading {
	b := s.read(0)
	h := headingOf(b)
	if h.place >= len(s.places()) || h.length > s.room() || h.bytes() != b {
		panic(api.ErrShelfForm)
	}
	return h
}

// settled is the heading, and it is safe. Without a crash, what a lost shelf wrote may still wait; were the text that the device would fall back to written over ahead of that, a crash could leave neither of both.
func (s *Shelf) settled() heading {
	h := s.heading()
	if len(s.d.Waiting()) > 0 {
		must(s.d.Sync())
	}
	return h
}

// textAt is the text of which a heading tells.
func (s *Shelf) textAt(h heading) string {
	var b strings.Builder
	for at := s.places()[h.place]; b.Len() < h.length; at++ {
		bytes := s.read(at)
		b.Write(bytes[:min(len(bytes), h.length-b.Len())])
	}
	return b.String()
}

// replace writes a text to the place that is free, and only when it is safe there, the heading that says so.
func (s *Shelf) replace(text string) {
	free := 1 - s.settled().place
	s.fill(s.places()[free], text)
	must(s.d.Sync())
	s.write(0, heading{place: free, length: len(text)}.bytes())
	must(s.d.Sync())
}

// fill writes a text to sectors from a given one on; what is behind it in the last of them is zeros.
func (s *Shelf) fill(at int, text string) {
	for len(text) > 0 {
		var b block
		n := copy(b[:], text)
		s.write(at, b)
		text = text[n:]
		at++
	}
}

func (s *Shelf) read(at int) block {
	bytes, e := s.d.Read(at)
	must(e)
	var b block
	copy(b[:], bytes)
	return b
}

func (s *Shelf) write(at int, b block) { must(s.d.Write(at, string(b[:]))) }
