package trace

// A place is where a name stands: in which document, at which of its atoms, and with which code point.
type place struct {
	doc   int
	at    int
	point int
}

// A match holds each sound document against those behind it, one after the other, rising.
type match struct {
	docs [][]atom
	rest [][]place // of each name its places in sound documents that were not held against others yet, rising
	last []reach   // of each document what was met there last
}

// A reach is the place in a document of the last atom that another one, by its number, has in common with it. One of zeros is as good as none: no place is less.
type reach struct {
	with int
	at   int
}

func newMatch(b *book, sound []bool) *match {
	m := &match{docs: b.docs, rest: make([][]place, len(b.names)), last: make([]reach, len(b.docs))}
	for i, row := range b.docs {
		for at, a := range row {
			if sound[i] {
				m.rest[a.name] = append(m.rest[a.name], place{doc: i, at: at, point: a.point})
			}
		}
	}
	return m
}

// next is the first document behind a given one that does not agree with it; false: all do. Going along its atoms, where these stand elsewhere is met in rising places.
func (m *match) next(doc int) (int, bool) {
	first := len(m.docs)
	for _, a := range m.docs[doc] {
		// The first place is its own.
		m.rest[a.name] = m.rest[a.name][1:]
		for _, x := range m.rest[a.name] {
			if x.doc >= first {
				break
			}
			last := m.last[x.doc]
			if x.point != a.point || last.with == doc && last.at > x.at {
				first = x.doc
			}
			m.last[x.doc] = reach{with: doc, at: x.at}
		}
	}
	return first, first < len(m.docs)
}
