package doc

import (
	"slices"
	"strings"
	"unicode/utf8"

	"oxbow/api"
)

const maxSeq = 100000 // the greatest Seq of an origin

// An atom, as it is told apart from the others.
type atom struct {
	origin api.Origin
	num    int
}

// isOrigin tells whether an origin is one.
func isOrigin(o api.Origin) bool {
	return 0 <= o.Client && o.Client <= api.MaxClients && 1 <= o.Seq && o.Seq <= maxSeq
}

// count tells how many code points a text has; -1: it is not valid.
func count(s string) int {
	if !utf8.ValidString(s) {
		return -1
	}
	return utf8.RuneCountInString(s)
}

// mayBe tells whether a run may be, whatever stands beside it. An origin has no more atoms than a document can.
func mayBe(r api.Run) bool {
	n := count(r.Text)
	return isOrigin(r.Origin) && n > 0 && 0 <= r.From && r.From <= api.MaxText-n
}

// isNext tells whether a run could be one with that ahead of it.
func isNext(ahead api.Run, r api.Run) bool {
	return r.Origin == ahead.Origin && r.From == ahead.From+count(ahead.Text)
}

// see marks the atoms of a run as seen; false: one was seen already.
func see(seen map[atom]struct{}, r api.Run) bool {
	for i := range count(r.Text) {
		a := atom{r.Origin, r.From + i}
		if _, twice := seen[a]; twice {
			return false
		}
		seen[a] = struct{}{}
	}
	return true
}

// with is a document of this program's own with runs behind it; what could be one run becomes one.
func with(l []api.Run, more ...api.Run) []api.Run {
	for _, r := range more {
		if last := len(l) - 1; last >= 0 && isNext(l[last], r) {
			l[last].Text += r.Text
			continue
		}
		// The text may be a piece of one that was handed in.
		r.Text = strings.Clone(r.Text)
		l = append(l, r)
	}
	return l
}

// taker goes along a document that may be: each call answers the runs of the next n atoms.
func taker(l []api.Run) func(n int) []api.Run {
	rest := slices.Clone(l) // of its first run, what was taken is cut off
	return func(n int) []api.Run {
		var taken []api.Run
		for n > 0 && len(rest) > 0 {
			head, tail := split(rest[0], n)
			taken = append(taken, head)
			n -= count(head.Text)
			if tail.Text == "" {
				rest = rest[1:]
			} else {
				rest[0] = tail
			}
		}
		return taken
	}
}

// split is a run's first n atoms, or all of them if it has no more, and those behind.
func split(r api.Run, n int) (head api.Run, tail api.Run) {
	at := behind(r.Text, n)
	head, tail = r, r
	head.Text, tail.Text = r.Text[:at], r.Text[at:]
	tail.From += n
	return head, tail
}

// behind is the place in the bytes of a text behind its first n code points, or its end if it has no more.
func behind(s string, n int) int {
	for at := range s {
		if n == 0 {
			return at
		}
		n--
	}
	return len(s)
}

// applied is what a delta makes of a document that it fits: what it puts in is numbered on from one place to the next.
func applied(l []api.Run, d []api.Op, o api.Origin) []api.Run {
	take := taker(l)
	var became []api.Run
	num := 0
	for _, op := range d {
		switch op.Kind {
		case api.OpKeep:
			became = with(became, take(op.N)...)
		case api.OpDelete:
			take(op.N)
		case api.OpInsert:
			became = with(became, api.Run{Origin: o, From: num, Text: op.Text})
			num += count(op.Text)
		}
	}
	return became
}
