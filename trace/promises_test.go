package trace_test

import (
	"fmt"
	"math/rand"
	"slices"
	"testing"

	"oxbow/api"
	"oxbow/doc"
	"oxbow/merge"
	"oxbow/state"
	"oxbow/trace"
)

func keep(n int) api.Op   { return api.Op{Kind: api.OpKeep, N: n} }
func gone(n int) api.Op   { return api.Op{Kind: api.OpDelete, N: n} }
func ins(s string) api.Op { return api.Op{Kind: api.OpInsert, Text: s} }

// someDelta is a delta of a text of so many code points, short enough that texts stay so.
func someDelta(r *rand.Rand, n int) []api.Op {
	var d []api.Op
	for n > 0 {
		k := 1 + r.Intn(n)
		switch r.Intn(6) {
		case 0, 1:
			d = append(d, ins([]string{"a", "b", "é", "xy"}[r.Intn(4)]))
		case 2:
			k = min(k, 3)
			d = append(d, gone(k))
			n -= k
		default:
			d = append(d, keep(k))
			n -= k
		}
	}
	if r.Intn(2) == 0 {
		d = append(d, ins([]string{"1", "2", "é", "uvw"}[r.Intn(4)]))
	}
	return d
}

func origin(n int) api.Origin { return api.Origin{Client: n % 9, Seq: 1 + n/9} }

// yes holds that Check and Order say yes.
func yes(t *testing.T, what string, l [][]api.Run) {
	t.Helper()
	if i, j, fine := trace.Check(l); !fine {
		t.Fatalf("%s: %s and %s do not agree", what, show(l[i]), show(l[j]))
	}
	row, fine := trace.Order(l)
	if !fine {
		t.Fatalf("%s: there is no order of %s", what, show(l))
	}
	if wrong := isOrder(row, l); wrong != "" {
		t.Fatalf("R2: %s: %s: %s", what, show(l), wrong)
	}
}

// TestEdits: P24.3, of one document and the next, and of all in a row.
func TestEdits(t *testing.T) {
	for seed := range int64(150) {
		r := rand.New(rand.NewSource(seed))
		var l [][]api.Run
		var last []api.Run
		for i := range 40 {
			l = append(l, last)
			next, e := doc.Apply(last, someDelta(r, doc.Len(last)), origin(i))
			if e != api.OK {
				t.Fatalf("P12.3: %d", e)
			}
			if _, _, fine := trace.Check([][]api.Run{last, next}); !fine {
				t.Fatalf("P24.3: %s and %s do not agree", show(last), show(next))
			}
			last = next
		}
		r.Shuffle(len(l), func(i, j int) { l[i], l[j] = l[j], l[i] })
		yes(t, "P24.3", l)
	}
}

// TestEditsWithAnOriginThatWas: what comes back under an origin that was there is not promised to agree, and Check tells.
func TestEditsWithAnOriginThatWas(t *testing.T) {
	first, _ := doc.Apply(nil, []api.Op{ins("ab")}, origin(0))
	second, _ := doc.Apply(first, []api.Op{gone(2)}, origin(1))
	third, e := doc.Apply(second, []api.Op{ins("x")}, origin(0))
	if e != api.OK {
		t.Fatalf("P12.3: %d", e)
	}
	if i, j, fine := trace.Check([][]api.Run{first, second, third}); i != 0 || j != 2 || fine {
		t.Errorf("R1: %d, %d, %t", i, j, fine)
	}
}

// A history is states that the machine made, one of another.
type history struct {
	r *rand.Rand
	s api.State
}

func (h *history) docOf(num int) []api.Run {
	l, _ := state.Doc(h.s, num)
	return l
}

// step does something at random.
func (h *history) step() {
	if len(h.s.Branches) == 0 {
		h.s, _, _ = state.Do(h.s, api.Request{Kind: api.ReqCreate, Name: "a"})
		return
	}
	b := h.s.Branches[h.r.Intn(len(h.s.Branches))]
	other := h.s.Branches[h.r.Intn(len(h.s.Branches))].Name
	rev := max(0, len(b.Log)-1-h.r.Intn(4))
	q := api.Request{Name: b.Name, Other: other, Num: 1 + h.r.Intn(h.s.NextCommit)}
	m := api.Message{Kind: api.MsgEdit, Branch: b.Id, Client: 1 + h.r.Intn(8), Seq: 1, Rev: rev}
	switch h.r.Intn(8) {
	case 0:
		q.Kind, q.Name = api.ReqFork, fmt.Sprint("f", h.r.Intn(6))
	case 1:
		q.Kind, q.Text = api.ReqImport, []string{"", "abc", "xaybz", "éa", "bbaa", "xyuvw"}[h.r.Intn(6)]
	case 2, 3:
		q.Kind, q.Delta = api.ReqEdit, someDelta(h.r, doc.Len(h.docOf(b.Log[len(b.Log)-1])))
	case 4, 5:
		q.Kind = api.ReqMerge
	default:
		for _, c := range h.s.Clients {
			if c.Client == m.Client {
				m.Seq = c.Seq + 1
			}
		}
		m.Delta = someDelta(h.r, doc.Len(h.docOf(b.Log[rev])))
		if s, e := state.Edit(h.s, m); e == api.OK {
			h.s = s
		}
		return
	}
	if s, _, e := state.Do(h.s, q); e == api.OK {
		h.s = s
	}
}

// TestWhatIsSeen: P24.4, along the Logs of all branches, and along the first parents of all commits; P6.
func TestWhatIsSeen(t *testing.T) {
	merges, apart := 0, 0
	for seed := range int64(60) {
		h := &history{rand.New(rand.NewSource(seed)), state.New()}
		for range 110 {
			h.step()
		}
		docs := map[int][]api.Run{}
		first := map[int]int{}
		for _, c := range h.s.Commits {
			docs[c.Num] = h.docOf(c.Num)
			if len(c.Parents) > 0 {
				first[c.Num] = c.Parents[0]
			}
			merges += len(c.Parents) / 2
		}
		var tips [][]api.Run
		for _, b := range h.s.Branches {
			var l [][]api.Run
			for _, num := range b.Log {
				l = append(l, docs[num])
			}
			yes(t, fmt.Sprint("P24.4: the branch ", b.Id, " of the seed ", seed), l)
			tips = append(tips, l[len(l)-1])
		}
		for num := range docs {
			var l [][]api.Run
			for n := num; n != 0; n = first[n] {
				l = append(l, docs[n])
			}
			yes(t, fmt.Sprint("P24.4: the first parents of ", num, " of the seed ", seed), l)
		}
		if _, _, fine := trace.Check(tips); !fine {
			apart++
		}
	}
	t.Logf("%d merges; in %d histories tips of branches do not agree", merges, apart)
	if merges < 200 {
		t.Errorf("only %d commits were merges", merges)
	}
}

// TestMerges: P24.5, of documents that came of one by edits, and of ones that were made up.
func TestMerges(t *testing.T) {
	counts := map[api.Errno]int{}
	for seed := range int64(4000) {
		r := rand.New(rand.NewSource(seed))
		base, x, y := grown(r)
		if seed%2 == 1 {
			base, x, y = madeUp(r), madeUp(r), madeUp(r)
		}
		three := [][]api.Run{base, x, y}
		_, _, fine := trace.Check(three)
		m, e := merge.Docs(base, x, y, 1, 2)
		counts[e]++
		if seed%2 == 0 && (!fine || e != api.OK) {
			t.Fatalf("P24.3, P14.1: %s: %t, %d", show(three), fine, e)
		}
		if !fine || e != api.OK {
			continue
		}
		for _, d := range three {
			if _, _, fine := trace.Check([][]api.Run{d, m}); !fine {
				t.Fatalf("P24.5: %s of %s and %s do not agree", show(m), show(three), show(d))
			}
		}
	}
	if counts[api.OK] < 2300 || counts[api.ErrMergeForm] < 100 {
		t.Errorf("P24.5: the merges answered %v", counts)
	}
}

// grown is a document, and two that came of it.
func grown(r *rand.Rand) (base []api.Run, x []api.Run, y []api.Run) {
	for i := range r.Intn(6) {
		base, _ = doc.Apply(base, someDelta(r, doc.Len(base)), origin(i))
	}
	x, y = base, base
	for i := range r.Intn(5) {
		x, _ = doc.Apply(x, someDelta(r, doc.Len(x)), origin(20+i))
	}
	for i := range r.Intn(5) {
		y, _ = doc.Apply(y, someDelta(r, doc.Len(y)), origin(40+i))
	}
	return base, x, y
}

// madeUp is a document that may be, of few atoms.
func madeUp(r *rand.Rand) []api.Run {
	var l []api.Run
	for _, n := range r.Perm(8)[:r.Intn(5)] {
		if r.Intn(4) > 0 {
			l = append(l, run(0, 1+n, 0, string(rune('a'+n))))
		}
	}
	if r.Intn(3) > 0 {
		slices.SortFunc(l, func(a api.Run, b api.Run) int { return a.Origin.Seq - b.Origin.Seq })
	}
	return l
}
