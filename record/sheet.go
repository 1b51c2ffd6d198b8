package record

import (
	"strings"

	"oxbow/api"
	"oxbow/delta"
	"oxbow/pack"
)

// The keys' first bytes.
const (
	branchKey = 'b'
	commitKey = 'c'
	nextKey   = 'n'
	clientKey = 'u'
)

// A sheet has the pairs that are done; what is written to it is the value of the next one. It is written to only of states that have a form, so that pack and delta refuse nothing.
type sheet struct {
	strings.Builder
	done []api.Pair
}

func (w *sheet) branch(b api.Branch) {
	w.nums(b.Id)
	w.texts(b.Name)
	w.counted(b.Log)
	w.end(branchKey, byte(b.Id>>8), byte(b.Id))
}

func (w *sheet) commit(c api.Commit) {
	w.nums(c.Num)
	w.counted(c.Parents)
	w.deltas(c.Delta, c.Other)
	w.nums(c.Client, c.Seq)
	w.end(commitKey, byte(c.Num>>8), byte(c.Num))
}

func (w *sheet) next(s api.State) {
	w.nums(s.NextCommit, s.NextBranch)
	w.end(nextKey)
}

func (w *sheet) client(c api.Client) {
	w.nums(c.Client, c.Branch, c.Seq)
	w.end(clientKey, byte(c.Client))
}

// end makes a pair of this key and of what was written since the pair ahead.
func (w *sheet) end(key ...byte) {
	w.done = append(w.done, api.Pair{Key: string(key), Value: w.String()})
	w.Reset()
}

func (w *sheet) nums(l ...int) {
	for _, n := range l {
		form, _ := pack.Num(n)
		w.WriteString(form)
	}
}

// counted writes how many numbers there are, and these.
func (w *sheet) counted(l []int) {
	w.nums(len(l))
	w.nums(l...)
}

func (w *sheet) texts(l ...string) {
	for _, s := range l {
		form, _ := pack.Text(s)
		w.WriteString(form)
	}
}

func (w *sheet) deltas(l ...[]api.Op) {
	for _, d := range l {
		form, _ := delta.Encode(d)
		w.texts(form)
	}
}
