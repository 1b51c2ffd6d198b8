package merge

import (
	"strings"

	"oxbow/api"
)

// An atom, as it is told apart from the others.
type atom struct {
	origin api.Origin
	num    int
}

// A unit is an atom with its code point.
type unit struct {
	atom
	point rune
}

// A row is a document's units, and the place of each.
type row struct {
	units  []unit
	places map[atom]int
}

func (r row) has(u unit) bool {
	_, is := r.places[u.atom]
	return is
}

// rowOf takes a document that may be apart.
func rowOf(l []api.Run) row {
	r := row{places: map[atom]int{}}
	for _, run := range l {
		num := run.From
		for _, point := range run.Text {
			u := unit{atom{run.Origin, num}, point}
			r.places[u.atom] = len(r.units)
			r.units = append(r.units, u)
			num++
		}
	}
	return r
}

// runsOf is the document of units.
func runsOf(all []unit) []api.Run {
	var l []api.Run
	for len(all) > 0 {
		n := 1
		for n < len(all) && all[n].atom == next(all[n-1].atom) {
			n++
		}
		l = append(l, api.Run{Origin: all[0].origin, From: all[0].num, Text: textOf(all[:n])})
		all = all[n:]
	}
	return l
}

// next is the atom that may stand in one run behind an atom.
func next(a atom) atom { return atom{a.origin, a.num + 1} }

// textOf is the text of units.
func textOf(all []unit) string {
	var s strings.Builder
	for _, u := range all {
		s.WriteRune(u.point)
	}
	return s.String()
}

// those are the elements of a list that are wanted.
func those[T any](l []T, wanted func(T) bool) []T {
	var some []T
	for _, e := range l {
		if wanted(e) {
			some = append(some, e)
		}
	}
	return some
}

// gaps are the pieces of a list ahead of the first element that ends one, between two of them, and behind the last one.
func gaps[T any](l []T, ends func(T) bool) [][]T {
	var all [][]T
	from := 0
	for i, e := range l {
		if ends(e) {
			all = append(all, l[from:i])
			from = i + 1
		}
	}
	return append(all, l[from:])
}
