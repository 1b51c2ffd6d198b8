package gc_test

import (
	"fmt"
	"math"
	"math/rand"
	"reflect"
	"slices"
	"strings"
	"testing"
	"unsafe"

	"oxbow/api"
	"oxbow/dag"
	"oxbow/gc"
)

func keep(n int) api.Op        { return api.Op{Kind: api.OpKeep, N: n} }
func gone(n int) api.Op        { return api.Op{Kind: api.OpDelete, N: n} }
func ins(s string) api.Op      { return api.Op{Kind: api.OpInsert, Text: s} }
func ops(l ...api.Op) []api.Op { return l }

// show tells what there is in a line, however long it is.
func show(x any) string {
	const most = 500
	s := fmt.Sprintf("%+q", fmt.Sprintf("%+v", x))
	if len(s) > most {
		return fmt.Sprintf("%s.. (%d bytes)", s[:most], len(s))
	}
	return s
}

// plain is a copy of a state, down to its last list, in which lists that are empty are nil.
func plain(s api.State) api.State {
	s.Commits, s.Branches, s.Clients = copied(s.Commits), copied(s.Branches), copied(s.Clients)
	for i := range s.Commits {
		c := &s.Commits[i]
		c.Parents, c.Delta, c.Other = copied(c.Parents), copied(c.Delta), copied(c.Other)
	}
	for i := range s.Branches {
		s.Branches[i].Log = copied(s.Branches[i].Log)
	}
	return s
}

func copied[T any](l []T) []T {
	if len(l) == 0 {
		return nil
	}
	return slices.Clone(l)
}

func same(a api.State, b api.State) bool { return reflect.DeepEqual(plain(a), plain(b)) }

// commitOf is the first commit with a number.
func commitOf(s api.State, num int) (api.Commit, bool) {
	for _, c := range s.Commits {
		if c.Num == num {
			return c, true
		}
	}
	return api.Commit{}, false
}

// needs is the needed numbers by the chapter's words: gone round as long as there comes another one.
func needs(s api.State) []int {
	var l []int
	isNeeded := func(num int) bool {
		for _, b := range s.Branches {
			if slices.Contains(b.Log, num) {
				return true
			}
		}
		for _, n := range l {
			if c, _ := commitOf(s, n); slices.Contains(c.Parents, num) {
				return true
			}
		}
		return false
	}
	for more := true; more; {
		more = false
		for _, c := range s.Commits {
			if !slices.Contains(l, c.Num) && isNeeded(c.Num) {
				l, more = append(l, c.Num), true
			}
		}
	}
	slices.Sort(l)
	return l
}

// hold holds both calls against the words, of any state.
func hold(t *testing.T, what string, s api.State) {
	t.Helper()
	was := plain(s)
	want := needs(s)
	if l := gc.Needed(s); !slices.Equal(l, want) {
		t.Fatalf("G1: %s: Needed(%s): %v, want %v", what, show(s), l, want)
	}
	wantState := plain(s)
	wantState.Commits = slices.DeleteFunc(wantState.Commits, func(c api.Commit) bool { return !slices.Contains(want, c.Num) })
	wantWent := len(s.Commits) - len(wantState.Commits)
	left, went := gc.Sweep(s)
	if !same(left, wantState) || went != wantWent {
		t.Fatalf("G2: %s: Sweep(%s): %s, %d, want %s, %d", what, show(s), show(left), went, show(wantState), wantWent)
	}
	if !same(s, was) {
		t.Fatalf("R5: %s: the state was changed: %s, and was %s", what, show(s), show(was))
	}
	again, went := gc.Sweep(left)
	if !same(again, left) || went != 0 {
		t.Fatalf("P21.1: %s: swept again: %s, %d, want %s", what, show(again), went, show(left))
	}
	if l := gc.Needed(left); !slices.Equal(l, want) {
		t.Fatalf("P21.1: %s: Needed behind a Sweep: %v, want %v", what, l, want)
	}
}

// of is a state of these commits, with a branch for each Log.
func of(commits []api.Commit, logs ...[]int) api.State {
	s := api.State{NextCommit: 9, NextBranch: 7, Commits: commits, Clients: []api.Client{{Client: 3, Branch: 2, Seq: 5}}}
	for i, l := range logs {
		s.Branches = append(s.Branches, api.Branch{Id: i + 1, Name: fmt.Sprint("b", i), Log: l})
	}
	return s
}

func commit(num int, parents ...int) api.Commit {
	return api.Commit{Num: num, Parents: parents, Delta: ops(ins(fmt.Sprint("by ", num))), Other: ops(keep(1)), Client: 4, Seq: num}
}

func TestExample(t *testing.T) {
	commits := []api.Commit{{Num: 1}, {Num: 2, Parents: []int{1}}, {Num: 3, Parents: []int{1}}, {Num: 4, Parents: []int{2, 3}}}
	s := of(commits, []int{3})
	if l := gc.Needed(s); !slices.Equal(l, []int{1, 3}) {
		t.Errorf("G1: Needed %v", l)
	}
	left, went := gc.Sweep(s)
	want := of([]api.Commit{{Num: 1}, {Num: 3, Parents: []int{1}}}, []int{3})
	if !same(left, want) || went != 2 {
		t.Errorf("G2: Sweep %s, %d", show(left), went)
	}
	s = of(commits)
	if l := gc.Needed(s); len(l) != 0 {
		t.Errorf("G1: without branches: Needed %v", l)
	}
	if left, went := gc.Sweep(s); !same(left, of(nil)) || went != 4 {
		t.Errorf("G2: without branches: Sweep %s, %d", show(left), went)
	}
}

// TestEdges: what is needed is written out here, so that it does not hang on the words as these tests read them once.
func TestEdges(t *testing.T) {
	line := []api.Commit{commit(1), commit(2, 1), commit(3, 2), commit(5, 3)}
	twice := []api.Commit{commit(1), commit(2), commit(3, 1), commit(3, 2), commit(4, 2)}
	for what, x := range map[string]struct {
		s    api.State
		want []int
		went int
	}{
		"nothing":                             {api.State{}, nil, 0},
		"a branch alone":                      {of(nil, []int{1}), nil, 0},
		"no branches":                         {of(line), nil, 4},
		"an empty Log":                        {of(line, nil), nil, 4},
		"an empty Log beside another one":     {of(line, nil, []int{2}, []int{}), []int{1, 2}, 2},
		"all":                                 {of(line, []int{5}), []int{1, 2, 3, 5}, 0},
		"a Log of all, falling":               {of(line, []int{5, 3, 2, 1}), []int{1, 2, 3, 5}, 0},
		"in Logs without a commit":            {of(line, []int{4, 0, -1, 6}, []int{math.MaxInt, math.MinInt}), nil, 4},
		"in a Log without a commit, and with": {of(line, []int{4, 1, 6}), []int{1}, 3},
		"among Parents without a commit":      {of([]api.Commit{commit(1), commit(4, 3, 1), commit(5, 6, 7)}, []int{4}), []int{1, 4}, 1},
		"behind one without a commit":         {of([]api.Commit{commit(1), commit(3, 2)}, []int{3}), []int{3}, 1},
		"one Num twice, the first one counts": {of(twice, []int{3}), []int{1, 3}, 2},
		"one Num twice, no one needs it":      {of(twice, []int{4}), []int{2, 4}, 3},
		"its own parent":                      {of([]api.Commit{commit(1, 1), commit(2, 2, 2), commit(3)}, []int{2}), []int{2}, 2},
		"a ring":                              {of([]api.Commit{commit(1, 3), commit(2, 1), commit(3, 2), commit(4)}, []int{2}), []int{1, 2, 3}, 1},
		"a ring that nobody needs":            {of([]api.Commit{commit(1, 3), commit(2, 1), commit(3, 2), commit(4)}, []int{4}), []int{4}, 3},
		"two rings with one number":           {of([]api.Commit{commit(1, 2), commit(2, 1, 3), commit(3, 2), commit(4, 1)}, []int{3}), []int{1, 2, 3}, 1},
		"in several Logs, and twice in one":   {of(line, []int{2, 2}, []int{2}, []int{1, 2}), []int{1, 2}, 2},
		"parents behind their children":       {of([]api.Commit{commit(9, 4), commit(4, 7), commit(7), commit(8)}, []int{9}), []int{4, 7, 9}, 1},
		"more than two parents":               {of([]api.Commit{commit(1), commit(2), commit(3), commit(4, 3, 2, 1)}, []int{4}), []int{1, 2, 3, 4}, 0},
		"numbers that are none":               {of([]api.Commit{commit(0, -5), commit(-5, math.MaxInt), commit(math.MaxInt, math.MinInt), commit(math.MinInt), commit(1)}, []int{0}), []int{math.MinInt, -5, 0, math.MaxInt}, 1},
	} {
		hold(t, what, x.s)
		if l := gc.Needed(x.s); !slices.Equal(l, x.want) {
			t.Errorf("G1: %s: Needed %v, want %v", what, l, x.want)
		}
		if _, went := gc.Sweep(x.s); went != x.went {
			t.Errorf("G2: %s: %d went, want %d", what, went, x.went)
		}
	}
}

// TestBothOfOneNumStay: a Num that is needed keeps all commits that have it, in their order.
func TestBothOfOneNumStay(t *testing.T) {
	first, second := commit(3, 1), commit(3, 2)
	s := of([]api.Commit{commit(4), second, commit(2), first, commit(1)}, []int{3})
	left, went := gc.Sweep(s)
	if want := of([]api.Commit{second, commit(2), first}, []int{3}); !same(left, want) || went != 2 {
		t.Errorf("G2: Sweep %s, %d, want %s", show(left), went, show(want))
	}
}

// TestAllElseStays: fields that no list of commits tells of are as they were.
func TestAllElseStays(t *testing.T) {
	s := api.State{NextCommit: -3, NextBranch: math.MaxInt, Commits: []api.Commit{commit(1)},
		Branches: []api.Branch{{Id: 4, Name: "none", Log: []int{2, 2}}, {Id: -1, Name: "\xff"}, {Id: 4}},
		Clients:  []api.Client{{Client: 99, Branch: -2, Seq: -3}, {Client: 99}}}
	want := plain(s)
	want.Commits = nil
	if left, went := gc.Sweep(s); !same(left, want) || went != 1 {
		t.Errorf("G2: Sweep %s, %d", show(left), went)
	}
}

// TestEverySmallState: all rows of three commits out of three numbers, with these parents, under these Logs.
func TestEverySmallState(t *testing.T) {
	parents := [][]int{nil, {1}, {2}, {3}, {2, 1}, {3, 2}, {4}}
	logs := [][][]int{nil, {nil}, {{1}}, {{2}}, {{3}}, {{4}, {1}}, {{3, 1}}, {{2}, {2, 3}}}
	row := make([]api.Commit, 3)
	var fill func(at int)
	fill = func(at int) {
		if at == len(row) {
			for _, l := range logs {
				hold(t, "a small state", of(row, l...))
			}
			return
		}
		for num := 1; num <= 3; num++ {
			for _, p := range parents {
				row[at] = api.Commit{Num: num, Parents: p}
				fill(at + 1)
			}
		}
	}
	fill(0)
}

func TestSomeStates(t *testing.T) {
	for seed := range int64(3000) {
		r := rand.New(rand.NewSource(seed))
		some := func() []int {
			var l []int
			for range r.Intn(4) {
				l = append(l, r.Intn(14)-1)
			}
			return l
		}
		var commits []api.Commit
		for range r.Intn(14) {
			commits = append(commits, commit(r.Intn(14)-1, some()...))
		}
		var logs [][]int
		for range r.Intn(4) {
			logs = append(logs, some())
		}
		hold(t, fmt.Sprint("seed ", seed), of(commits, logs...))
	}
}

// TestLongWays: a way up, and a ring, of very many commits; rising, and falling.
func TestLongWays(t *testing.T) {
	const n = 150000
	for _, ring := range []int{0, n} {
		var up, down []api.Commit
		for i := range n {
			up = append(up, api.Commit{Num: i + 1, Parents: []int{i}})
		}
		up[0].Parents[0] = ring
		down = slices.Clone(up)
		slices.Reverse(down)
		for _, l := range [][]api.Commit{up, down} {
			s := of(slices.Concat(l, []api.Commit{commit(-7)}), []int{n})
			nums := gc.Needed(s)
			if len(nums) != n || nums[0] != 1 || nums[n-1] != n || !slices.IsSorted(nums) {
				t.Errorf("G1: %d are needed", len(nums))
			}
			if left, went := gc.Sweep(s); len(left.Commits) != n || went != 1 {
				t.Errorf("G2: %d are left, %d went", len(left.Commits), went)
			}
		}
	}
}

// links are a state's commits, as a graph sees them.
func links(s api.State) []api.Link {
	var l []api.Link
	for _, c := range s.Commits {
		l = append(l, api.Link{Num: c.Num, Parents: c.Parents})
	}
	return l
}

// holdAbove is P21.4.
func holdAbove(t *testing.T, s api.State) {
	t.Helper()
	var want []int
	for _, b := range s.Branches {
		for _, num := range b.Log {
			if up, e := dag.Above(links(s), num); e == api.OK {
				want = append(want, up...)
			}
		}
	}
	slices.Sort(want)
	want = slices.Compact(want)
	if l := gc.Needed(s); !slices.Equal(l, want) {
		t.Fatalf("P21.4: Needed(%s): %v, Above are %v", show(s), l, want)
	}
	left, _ := gc.Sweep(s)
	if e := dag.Check(links(left)); e != api.OK {
		t.Fatalf("P21.4: behind a Sweep of %s the commits are no graph: %d", show(s), e)
	}
}

// TestAbove: all graphs of up to four commits, with a gap between their numbers, under all Logs of one and some of two numbers; and greater ones at random.
func TestAbove(t *testing.T) {
	nums := []int{1, 2, 5, 300}
	var row []api.Commit
	var fill func()
	fill = func() {
		for _, a := range append(nums, 4) {
			holdAbove(t, of(row, []int{a}))
			for _, b := range append(nums, 0) {
				holdAbove(t, of(row, []int{a, b}, nil))
			}
		}
		if len(row) == len(nums) {
			return
		}
		ahead := nums[:len(row)]
		parents := [][]int{nil}
		for _, p := range ahead {
			parents = append(parents, []int{p})
			for _, q := range ahead {
				if p != q {
					parents = append(parents, []int{p, q})
				}
			}
		}
		for _, p := range parents {
			row = append(row, api.Commit{Num: nums[len(row)], Parents: p})
			fill()
			row = row[:len(row)-1]
		}
	}
	fill()
	for seed := range int64(300) {
		r := rand.New(rand.NewSource(seed))
		var commits []api.Commit
		for num := 1; num <= 300; num++ {
			if r.Intn(4) == 0 {
				continue
			}
			c := api.Commit{Num: num}
			for range min(r.Intn(3), len(commits)) {
				if p := commits[r.Intn(len(commits))].Num; !slices.Contains(c.Parents, p) {
					c.Parents = append(c.Parents, p)
				}
			}
			commits = append(commits, c)
		}
		s := of(commits, []int{r.Intn(302)}, []int{r.Intn(50), r.Intn(100)})
		if e := dag.Check(links(s)); e != api.OK {
			t.Fatalf("P13.1: %d", e)
		}
		holdAbove(t, s)
	}
}

// A span is the memory that a list, with its spare room, or a text takes.
type span struct{ from, to uintptr }

func overlap(a span, b span) bool { return a.from < b.to && b.from < a.to }

// spans are those of all lists and all texts of a value. Texts of one byte may be the runtime's own.
func spans(v reflect.Value) (lists []span, texts []span) {
	add := func(v reflect.Value) {
		l, s := spans(v)
		lists, texts = append(lists, l...), append(texts, s...)
	}
	switch v.Kind() {
	case reflect.Slice:
		if v.Cap() > 0 {
			lists = append(lists, span{v.Pointer(), v.Pointer() + uintptr(v.Cap())*v.Type().Elem().Size()})
		}
		for i := range v.Len() {
			add(v.Index(i))
		}
	case reflect.Struct:
		for i := range v.NumField() {
			add(v.Field(i))
		}
	case reflect.String:
		if s := v.String(); len(s) > 1 {
			from := uintptr(unsafe.Pointer(unsafe.StringData(s)))
			texts = append(texts, span{from, from + uintptr(len(s))})
		}
	}
	return lists, texts
}

// roomy is a copy of a state with texts of its own, whose lists all have spare room.
func roomy(s api.State) api.State {
	s = plain(s)
	s.Commits, s.Branches, s.Clients = slices.Grow(s.Commits, 9), slices.Grow(s.Branches, 9), slices.Grow(s.Clients, 9)
	for i := range s.Commits {
		c := &s.Commits[i]
		c.Parents, c.Delta, c.Other = slices.Grow(c.Parents, 9), slices.Grow(c.Delta, 9), slices.Grow(c.Other, 9)
		for j := range c.Delta {
			c.Delta[j].Text = strings.Clone(c.Delta[j].Text)
		}
	}
	for i := range s.Branches {
		s.Branches[i].Name, s.Branches[i].Log = strings.Clone(s.Branches[i].Name), slices.Grow(s.Branches[i].Log, 9)
	}
	return s
}

// TestAnswersAreNewMemory: with commits that went and without, and where lists of the state share memory.
func TestAnswersAreNewMemory(t *testing.T) {
	shared := make([]int, 1, 9)
	shared[0] = 2
	commits := []api.Commit{commit(1), {Num: 2, Parents: shared, Delta: ops(ins("some words"))}, {Num: 3, Parents: shared}, commit(4, 2, 3)}
	for _, s := range []api.State{
		roomy(of([]api.Commit{commit(1), commit(2, 1), commit(3, 1)}, []int{2})),
		roomy(of([]api.Commit{commit(1), commit(2, 1)}, []int{2}, []int{1, 2})),
		roomy(of([]api.Commit{commit(1)})),
		of(commits, shared, shared),
	} {
		left, _ := gc.Sweep(s)
		lists, texts := spans(reflect.ValueOf(left))
		given, words := spans(reflect.ValueOf(s))
		for i, a := range lists {
			if slices.ContainsFunc(lists[:i], func(b span) bool { return overlap(a, b) }) {
				t.Errorf("R5: Sweep(%s): two lists of the answer share memory", show(s))
			}
			if slices.ContainsFunc(given, func(b span) bool { return overlap(a, b) }) {
				t.Errorf("R5: Sweep(%s): a list of the answer is one that was handed in", show(s))
			}
		}
		for _, a := range texts {
			if slices.ContainsFunc(words, func(b span) bool { return overlap(a, b) }) {
				t.Errorf("R5: Sweep(%s): a text of the answer is one that was handed in", show(s))
			}
		}
	}
}

// scribble writes into all that an answer has, its spare room too.
func scribble(s api.State) {
	for _, c := range s.Commits {
		for _, d := range [][]api.Op{c.Delta[:cap(c.Delta)], c.Other[:cap(c.Other)]} {
			for i := range d {
				d[i] = api.Op{Kind: 9, N: 9, Text: "?"}
			}
		}
		for i := range c.Parents[:cap(c.Parents)] {
			c.Parents[:cap(c.Parents)][i] = -9
		}
	}
	for _, b := range s.Branches {
		for i := range b.Log[:cap(b.Log)] {
			b.Log[:cap(b.Log)][i] = -9
		}
	}
	clear(s.Commits[:cap(s.Commits)])
	clear(s.Branches[:cap(s.Branches)])
	clear(s.Clients[:cap(s.Clients)])
}

func TestAnswersMayBeWrittenInto(t *testing.T) {
	s := roomy(of([]api.Commit{commit(1), commit(2, 1), commit(3, 1), commit(4, 2)}, []int{2}, []int{1, 4}))
	was := plain(s)
	want, _ := gc.Sweep(was)
	for range 2 {
		left, _ := gc.Sweep(s)
		scribble(left)
		l := gc.Needed(s)
		for i := range l[:cap(l)] {
			l[:cap(l)][i] = -9
		}
		if !same(s, was) {
			t.Fatalf("R5: what was handed in is %s, and was %s", show(s), show(was))
		}
		if left, _ := gc.Sweep(s); !same(left, want) {
			t.Fatalf("R5: the next answer is %s, want %s", show(left), show(want))
		}
		hold(t, "behind the scribble", s)
	}
}
