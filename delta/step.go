package delta

import (
	"oxbow/api"
	"oxbow/pack"
	"oxbow/text"
)

// A step is an operation of a delta, as one of the kinds below.
type step interface{ op() api.Op }

type (
	keep   int    // so many code points stay
	remove int    // so many go
	insert string // this is put in
)

func (s keep) op() api.Op   { return api.Op{Kind: api.OpKeep, N: int(s)} }
func (s remove) op() api.Op { return api.Op{Kind: api.OpDelete, N: int(s)} }
func (s insert) op() api.Op { return api.Op{Kind: api.OpInsert, Text: string(s)} }

// stepOf is the step that an operation is; nil: it may not be.
func stepOf(o api.Op) step {
	counts := 1 <= o.N && o.N <= api.MaxText && o.Text == ""
	switch {
	case o.Kind == api.OpKeep && counts:
		return keep(o.N)
	case o.Kind == api.OpDelete && counts:
		return remove(o.N)
	case o.Kind == api.OpInsert && o.N == 0 && text.Len(o.Text) > 0:
		return insert(o.Text)
	}
	return nil
}

// stepsOf are the steps of a delta that may be; with Check's error there are none.
func stepsOf(d []api.Op) ([]step, api.Errno) {
	if len(d) > api.MaxOps {
		return nil, api.ErrDeltaForm
	}
	l := make([]step, 0, len(d))
	for _, o := range d {
		s := stepOf(o)
		if s == nil {
			return nil, api.ErrDeltaForm
		}
		l = append(l, s)
	}
	if base, target := lengths(l); base > api.MaxText || target > api.MaxText {
		return nil, api.ErrDeltaLength
	}
	return l, api.OK
}

// lengths are the base and the target of steps.
func lengths(l []step) (base int, target int) {
	for _, s := range l {
		switch s := s.(type) {
		case keep:
			base, target = base+int(s), target+int(s)
		case remove:
			base += int(s)
		case insert:
			target += text.Len(string(s))
		}
	}
	return base, target
}

// applied is what steps make of the code points of a text of their base.
func applied(points []int, l []step) []int {
	var became []int
	for _, s := range l {
		switch s := s.(type) {
		case keep:
			became, points = append(became, points[:s]...), points[s:]
		case remove:
			points = points[s:]
		case insert:
			put, _ := text.Points(string(s))
			became = append(became, put...)
		}
	}
	return became
}

// A stretch is a part of a normal delta: what is kept, and what changes behind it.
type stretch struct {
	kept int
	put  []byte
	gone int
}

// joined is the normal delta that comes of steps. A keep ends a stretch only where something has changed, so that keeps with nothing between become one.
func joined(l []step) []api.Op {
	var d []api.Op
	var at stretch
	for _, s := range l {
		switch s := s.(type) {
		case keep:
			if len(at.put) > 0 || at.gone > 0 {
				d, at = at.behind(d), stretch{}
			}
			at.kept += int(s)
		case remove:
			at.gone += int(s)
		case insert:
			at.put = append(at.put, s...)
		}
	}
	return at.behind(d)
}

// behind puts the operations of a stretch behind those of a delta.
func (at stretch) behind(d []api.Op) []api.Op {
	if at.kept > 0 {
		d = append(d, keep(at.kept).op())
	}
	if len(at.put) > 0 {
		d = append(d, insert(at.put).op())
	}
	if at.gone > 0 {
		d = append(d, remove(at.gone).op())
	}
	return d
}

// appendStep puts the form of a step that may be behind other bytes.
func appendStep(b []byte, s step) []byte {
	switch s := s.(type) {
	case keep:
		return appendNums(b, api.OpKeep, int(s))
	case remove:
		return appendNums(b, api.OpDelete, int(s))
	case insert:
		// A text of at most MaxText code points is never too long for pack.
		form, _ := pack.Text(string(s))
		return append(appendNums(b, api.OpInsert), form...)
	}
	return b
}

// appendNums puts the forms of numbers that are small, and not below 0, behind other bytes.
func appendNums(b []byte, nums ...int) []byte {
	for _, n := range nums {
		form, _ := pack.Num(n)
		b = append(b, form...)
	}
	return b
}

// takeStep reads a step that begins at a place, and tells the place behind it; nil: none is there. Whether the step may be is not looked at.
func takeStep(s string, at int) (step, int) {
	kind, at, e := pack.TakeNum(s, at)
	if e != api.OK {
		return nil, 0
	}
	if kind == api.OpInsert {
		put, at, e := pack.TakeText(s, at)
		if e != api.OK {
			return nil, 0
		}
		return insert(put), at
	}
	n, at, e := pack.TakeNum(s, at)
	switch {
	case e != api.OK:
		return nil, 0
	case kind == api.OpKeep:
		return keep(n), at
	case kind == api.OpDelete:
		return remove(n), at
	}
	return nil, 0
}
