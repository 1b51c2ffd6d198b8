package trace

import (
	"oxbow/api"
	"oxbow/text"
)

// highestFrom is the highest From of a run that counts.
const highestFrom = 1000000

// A name is what an atom is told apart by.
type name struct {
	origin api.Origin
	num    int
}

// An atom has a name, here by its place among all names, and a code point.
type atom struct {
	name  int
	point int
}

// A book is documents, atom by atom, and all names that they have, in the order in which they are met.
type book struct {
	docs  [][]atom
	names []name
}

// read takes documents apart.
func read(l [][]api.Run) *book {
	b := &book{docs: make([][]atom, len(l))}
	known := map[name]int{}
	for i, runs := range l {
		for _, r := range runs {
			for k, point := range pointsOf(r) {
				n := name{origin: r.Origin, num: r.From + k}
				at, met := known[n]
				if !met {
					at = len(b.names)
					known[n] = at
					b.names = append(b.names, n)
				}
				b.docs[i] = append(b.docs[i], atom{name: at, point: point})
			}
		}
	}
	return b
}

// pointsOf are the code points of a run; none, if it does not count.
func pointsOf(r api.Run) []int {
	if r.From < 0 || r.From > highestFrom {
		return nil
	}
	points, _ := text.Points(r.Text)
	return points
}

// sound tells of each document whether no name stands in it twice.
func (b *book) sound() []bool {
	sound := make([]bool, len(b.docs))
	last := make([]int, len(b.names)) // the last document with a name, numbered from 1 on
	for i, row := range b.docs {
		sound[i] = true
		for _, a := range row {
			sound[i] = sound[i] && last[a.name] != i+1
			last[a.name] = i + 1
		}
	}
	return sound
}

// points are the code points of all names; false: one name has two.
func (b *book) points() ([]int, bool) {
	points := make([]int, len(b.names))
	for n := range points {
		points[n] = -1
	}
	for _, row := range b.docs {
		for _, a := range row {
			if points[a.name] >= 0 && points[a.name] != a.point {
				return nil, false
			}
			points[a.name] = a.point
		}
	}
	return points, true
}

// runs are names in a row, with their code points, as runs.
func (b *book) runs(row []int, points []int) []api.Run {
	var l []api.Run
	for from := 0; from < len(row); {
		to := from + 1
		for to < len(row) && b.follows(row[to-1], row[to]) {
			to++
		}
		l = append(l, b.run(row[from:to], points))
		from = to
	}
	return l
}

// follows tells whether a name is the next one of the other one's origin.
func (b *book) follows(ahead int, behind int) bool {
	x, y := b.names[ahead], b.names[behind]
	return x.origin == y.origin && x.num+1 == y.num
}

// run is names of one origin, whose numbers go up by one, as one run.
func (b *book) run(row []int, points []int) api.Run {
	var l []int
	for _, n := range row {
		l = append(l, points[n])
	}
	s, _ := text.Text(l)
	first := b.names[row[0]]
	return api.Run{Origin: first.origin, From: first.num, Text: s}
}
