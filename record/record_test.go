package record_test

import (
	"math"
	"math/rand"
	"slices"
	"strings"
	"testing"
	"unsafe"

	"oxbow/api"
	"oxbow/record"
)

// accepted holds that a state has a form, and what all calls make of it.
func accepted(t *testing.T, what string, s api.State) {
	t.Helper()
	was := plain(s)
	want := pairsOf(s)
	l, e := record.Pairs(s)
	if !slices.Equal(l, want) || e != api.OK {
		t.Errorf("P15.1: %s: Pairs %s, %d, want %s", what, show(l), e, show(want))
	}
	if !slices.IsSortedFunc(l, func(a, b api.Pair) int { return strings.Compare(a.Key, b.Key) }) {
		t.Errorf("P15.1: %s: Pairs do not rise: %s", what, show(l))
	}
	if back, e := record.Load(want); !same(back, s) || e != api.OK {
		t.Errorf("P15.3: %s: Load of Pairs %s, %d, want %s", what, show(back), e, show(s))
	}
	if put, out, e := record.Changes(s, s); len(put) > 0 || len(out) > 0 || e != api.OK {
		t.Errorf("P15.2: %s: Changes to itself %s, %q, %d", what, show(put), out, e)
	}
	holdChanges(t, what+", from none", first(), s)
	holdChanges(t, what+", to none", s, first())
	if !same(s, was) {
		t.Errorf("R5: %s: the state was changed", what)
	}
}

// refused holds that a state has no form, or none with pairs.
func refused(t *testing.T, what string, s api.State) {
	t.Helper()
	if l, e := record.Pairs(s); len(l) > 0 || e != api.ErrRecordForm {
		t.Errorf("P15.1: %s: Pairs %s, %d", what, show(l), e)
	}
	for _, other := range []api.State{first(), small(), s} {
		if put, out, e := record.Changes(s, other); len(put) > 0 || len(out) > 0 || e != api.ErrRecordForm {
			t.Errorf("P15.2: %s: Changes from it %s, %q, %d", what, show(put), out, e)
		}
		if put, out, e := record.Changes(other, s); len(put) > 0 || len(out) > 0 || e != api.ErrRecordForm {
			t.Errorf("P15.2: %s: Changes to it %s, %q, %d", what, show(put), out, e)
		}
	}
}

// notLoaded holds that these pairs are those of no state.
func notLoaded(t *testing.T, what string, l []api.Pair) {
	t.Helper()
	if s, e := record.Load(l); !empty(s) || e != api.ErrRecordForm {
		t.Errorf("P15.1: %s: Load %s, %d", what, show(s), e)
	}
}

// holdLoad holds Load against the state that the pairs have, read step by step, and tells whether there is one.
func holdLoad(t *testing.T, what string, l []api.Pair) bool {
	t.Helper()
	was := slices.Clone(l)
	want, ok := loaded(l)
	if !ok {
		notLoaded(t, what+" "+show(l), l)
	} else if s, e := record.Load(l); !same(s, want) || e != api.OK {
		t.Errorf("P15.1: %s: Load(%s): %s, %d, want %s", what, show(l), show(s), e, show(want))
	}
	if !slices.Equal(l, was) {
		t.Errorf("R5: %s: the pairs were changed", what)
	}
	return ok
}

// holdChanges holds Changes against the words of P15.2 and of P15.3.
func holdChanges(t *testing.T, what string, from api.State, to api.State) {
	t.Helper()
	had, has := pairsOf(from), pairsOf(to)
	var wantPut []api.Pair
	for _, p := range has {
		if !slices.Contains(had, p) {
			wantPut = append(wantPut, p)
		}
	}
	var wantOut []string
	for _, p := range had {
		if !slices.ContainsFunc(has, func(q api.Pair) bool { return q.Key == p.Key }) {
			wantOut = append(wantOut, p.Key)
		}
	}
	put, out, e := record.Changes(from, to)
	if !slices.Equal(put, wantPut) || !slices.Equal(out, wantOut) || e != api.OK {
		t.Errorf("P15.2: %s: Changes %s, %q, %d, want %s, %q", what, show(put), out, e, show(wantPut), wantOut)
	}
	if l := turned(had, put, out); !slices.Equal(l, has) {
		t.Errorf("P15.3: %s: turned %s, want %s", what, show(l), show(has))
	}
}

// turned are pairs with keys taken out and pairs put in, sorted.
func turned(l []api.Pair, put []api.Pair, out []string) []api.Pair {
	l = slices.DeleteFunc(slices.Clone(l), func(p api.Pair) bool {
		return slices.Contains(out, p.Key) || slices.ContainsFunc(put, func(q api.Pair) bool { return q.Key == p.Key })
	})
	l = append(l, put...)
	slices.SortFunc(l, func(a, b api.Pair) int { return strings.Compare(a.Key, b.Key) })
	return l
}

// first is the state that a repository begins with.
func first() api.State { return api.State{NextCommit: 1, NextBranch: 1} }

func TestExamples(t *testing.T) {
	if l, e := record.Pairs(first()); !slices.Equal(l, []api.Pair{{Key: "n", Value: "\x01\x01"}}) || e != api.OK {
		t.Errorf("P15.1: Pairs of the first state %s, %d", show(l), e)
	}
	if s, e := record.Load([]api.Pair{{Key: "n", Value: "\x01\x01"}}); !same(s, first()) || e != api.OK {
		t.Errorf("P15.1: Load of the first state's %s, %d", show(s), e)
	}
	notLoaded(t, "nil", nil)
	notLoaded(t, "none", []api.Pair{})
	accepted(t, "the first state", first())
}

func TestPairsByteByByte(t *testing.T) {
	s := api.State{NextCommit: 70000, NextBranch: 65536,
		Commits: []api.Commit{
			{Num: 255, Parents: []int{300, 1}, Delta: ops(keep(300), ins("é"), gone(2)), Other: ops(ins("x")), Client: 8, Seq: 100000},
			{Num: 256},
			{Num: 65535, Parents: []int{1000000}, Seq: 128},
		},
		Branches: []api.Branch{{Id: 255, Name: "a0z9", Log: []int{1, 128, 1000000}}, {Id: 256, Name: "abcdefghijkl"}, {Id: 65535, Name: "0", Log: []int{5}}},
		Clients:  []api.Client{{Client: 1, Branch: 1000000, Seq: 1}, {Client: 8, Branch: 127, Seq: 100000}},
	}
	want := []api.Pair{
		{Key: "b\x00\xff", Value: "\xff\x01\x04a0z9\x03\x01\x80\x01\xc0\x84\x3d"},
		{Key: "b\x01\x00", Value: "\x80\x02\x0cabcdefghijkl\x00"},
		{Key: "b\xff\xff", Value: "\xff\xff\x03\x010\x01\x05"},
		{Key: "c\x00\xff", Value: "\xff\x01\x02\xac\x02\x01\x0a\x03\x01\xac\x02\x02\x02\xc3\xa9\x03\x02\x04\x01\x02\x01x\x08\xa0\x8d\x06"},
		{Key: "c\x01\x00", Value: "\x80\x02\x00\x01\x00\x01\x00\x00\x00"},
		{Key: "c\xff\xff", Value: "\xff\xff\x03\x01\xc0\x84\x3d\x01\x00\x01\x00\x00\x80\x01"},
		{Key: "n", Value: "\xf0\xa2\x04\x80\x80\x04"},
		{Key: "u\x01", Value: "\x01\xc0\x84\x3d\x01"},
		{Key: "u\x08", Value: "\x08\x7f\xa0\x8d\x06"},
	}
	if l, e := record.Pairs(s); !slices.Equal(l, want) || e != api.OK {
		t.Errorf("P15.1: Pairs %q, %d", l, e)
	}
	if back, e := record.Load(want); !same(back, s) || e != api.OK {
		t.Errorf("P15.1: Load %v, %d", back, e)
	}
	accepted(t, "the same", s)
}

// A turn is a change of the small state, and whether what comes of it has pairs.
type turn struct {
	what string
	ok   bool
	do   func(s *api.State)
}

// numbers are turns that set a number to the ends of what it may be, and beyond them.
func numbers(what string, low int, high int, set func(s *api.State, n int)) []turn {
	var l []turn
	for _, n := range []int{low, low + 1, (low + high) / 2, high - 1, high} {
		l = append(l, turn{what + " at an end or between", low <= n && n <= high, func(s *api.State) { set(s, n) }})
	}
	for _, n := range []int{low - 1, high + 1, -1, -100, math.MinInt, math.MaxInt, 1 << 50, 1<<50 + 1, 1<<32 + low, low - 1<<32, 256 + high} {
		if n < low || n > high {
			l = append(l, turn{what + " beyond its ends", false, func(s *api.State) { set(s, n) }})
		}
	}
	return l
}

func numberTurns() []turn {
	return slices.Concat(
		numbers("NextCommit", 4, 1000000, func(s *api.State, n int) { s.NextCommit = n }),
		numbers("NextBranch", 9, 1000000, func(s *api.State, n int) { s.NextBranch = n }),
		numbers("NextCommit of no commits", 1, 1000000, func(s *api.State, n int) { s.Commits, s.NextCommit = nil, n }),
		numbers("NextBranch of no branches", 1, 1000000, func(s *api.State, n int) { s.Branches, s.NextBranch = nil, n }),
		numbers("the first Num", 1, 2, func(s *api.State, n int) { s.Commits[0].Num = n }),
		numbers("the last Num", 2, 3, func(s *api.State, n int) { s.Commits[1].Num = n }),
		numbers("the last Num of many", 2, 65535, func(s *api.State, n int) { s.NextCommit, s.Commits[1].Num = 1000000, n }),
		numbers("the only Num", 1, 65535, func(s *api.State, n int) { s.NextCommit, s.Commits = 65536, []api.Commit{{Num: n}} }),
		numbers("a first Parent", 1, 1000000, func(s *api.State, n int) { s.Commits[1].Parents[0] = n }),
		numbers("a second Parent", 1, 1000000, func(s *api.State, n int) { s.Commits[1].Parents[1] = n }),
		numbers("an only Parent", 1, 1000000, func(s *api.State, n int) { s.Commits[0].Parents = []int{n} }),
		numbers("a commit's Client", 0, 8, func(s *api.State, n int) { s.Commits[0].Client = n }),
		numbers("a commit's Seq", 0, 100000, func(s *api.State, n int) { s.Commits[0].Seq = n }),
		numbers("the last commit's Client", 0, 8, func(s *api.State, n int) { s.Commits[1].Client = n }),
		numbers("the last commit's Seq", 0, 100000, func(s *api.State, n int) { s.Commits[1].Seq = n }),
		numbers("the first Id", 1, 7, func(s *api.State, n int) { s.Branches[0].Id = n }),
		numbers("the last Id", 3, 8, func(s *api.State, n int) { s.Branches[1].Id = n }),
		numbers("the last Id of many", 3, 65535, func(s *api.State, n int) { s.NextBranch, s.Branches[1].Id = 1000000, n }),
		numbers("the only Id", 1, 65535, func(s *api.State, n int) { s.NextBranch, s.Branches = 65536, []api.Branch{{Id: n, Name: "a"}} }),
		numbers("the Log's first", 1, 1000000, func(s *api.State, n int) { s.Branches[0].Log[0] = n }),
		numbers("the Log's last", 1, 1000000, func(s *api.State, n int) { s.Branches[0].Log[1] = n }),
		numbers("the Log's only one", 1, 1000000, func(s *api.State, n int) { s.Branches[1].Log = []int{n} }),
		numbers("the first Client", 1, 7, func(s *api.State, n int) { s.Clients[0].Client = n }),
		numbers("the last Client", 4, 8, func(s *api.State, n int) { s.Clients[1].Client = n }),
		numbers("the only Client", 1, 8, func(s *api.State, n int) { s.Clients = []api.Client{{Client: n, Branch: 1, Seq: 1}} }),
		numbers("a client's Branch", 1, 1000000, func(s *api.State, n int) { s.Clients[0].Branch = n }),
		numbers("a client's Seq", 1, 100000, func(s *api.State, n int) { s.Clients[0].Seq = n }),
		numbers("the last client's Branch", 1, 1000000, func(s *api.State, n int) { s.Clients[1].Branch = n }),
		numbers("the last client's Seq", 1, 100000, func(s *api.State, n int) { s.Clients[1].Seq = n }),
	)
}

// hold holds what comes of a turn of the small state; of one that may not be, also that its pairs, written all the same, are not loaded.
func hold(t *testing.T, c turn) {
	t.Helper()
	s := plain(small())
	c.do(&s)
	if c.ok {
		accepted(t, c.what, s)
		return
	}
	refused(t, c.what, s)
	if writable(s) {
		notLoaded(t, c.what, pairsOf(s))
	}
}

// writable tells whether all numbers of a state are such as pack writes.
func writable(s api.State) bool {
	all := []int{s.NextCommit, s.NextBranch}
	for _, c := range s.Commits {
		all = append(append(all, c.Num, c.Client, c.Seq), c.Parents...)
	}
	for _, b := range s.Branches {
		all = append(append(all, b.Id), b.Log...)
	}
	for _, c := range s.Clients {
		all = append(all, c.Client, c.Branch, c.Seq)
	}
	return slices.Min(all) >= 0 && slices.Max(all) <= api.MaxNum
}

func TestNumbers(t *testing.T) {
	for _, c := range numberTurns() {
		if hold(t, c); t.Failed() {
			return
		}
	}
}

// shapeTurns are turns that are not of one number alone.
func shapeTurns() []turn {
	wrong := [][]api.Op{ops(keep(0)), ops(ins("")), ops(keep(1001)), ops(api.Op{Kind: 4, N: 1}), ops(api.Op{}), ops(ins("\xff")), ops(keep(1000), ins("x")), slices.Repeat(ops(keep(1)), 1001), slices.Repeat(ops(keep(1)), 3001)}
	right := [][]api.Op{nil, {}, ops(gone(1), ins("a"), keep(1), keep(2)), ops(keep(1000)), slices.Repeat(ops(gone(1), ins("😀")), 1000), ops(ins(strings.Repeat("😀", 1000)))}
	l := []turn{
		{"the small state", true, func(s *api.State) {}},
		{"the full state", true, func(s *api.State) { *s = full() }},
		{"no commits", true, func(s *api.State) { s.Commits = nil }},
		{"no branches", true, func(s *api.State) { s.Branches = nil }},
		{"no clients", true, func(s *api.State) { s.Clients = nil }},
		{"empty lists", true, func(s *api.State) {
			*s = api.State{NextCommit: 2, NextBranch: 2, Commits: []api.Commit{{Num: 1, Parents: []int{}, Delta: ops(), Other: ops()}}, Branches: []api.Branch{{Id: 1, Name: "a", Log: []int{}}}, Clients: []api.Client{}}
		}},
		{"the zero state", false, func(s *api.State) { *s = api.State{} }},
		{"commits that fall", false, func(s *api.State) { slices.Reverse(s.Commits) }},
		{"branches that fall", false, func(s *api.State) { slices.Reverse(s.Branches) }},
		{"clients that fall", false, func(s *api.State) { slices.Reverse(s.Clients) }},
		{"a commit twice", false, func(s *api.State) { s.Commits = append(s.Commits, s.Commits[1]) }},
		{"a branch twice", false, func(s *api.State) { s.Branches = append(s.Branches, s.Branches[1]) }},
		{"a client twice", false, func(s *api.State) { s.Clients = append(s.Clients, s.Clients[1]) }},
		{"Ids with the same key", false, func(s *api.State) { s.NextBranch, s.Branches[1].Id = 1000000, 65536+s.Branches[0].Id }},
		{"Nums with the same key", false, func(s *api.State) { s.NextCommit, s.Commits[1].Num = 1000000, 65536+s.Commits[0].Num }},
		{"no Parents", true, func(s *api.State) { s.Commits[1].Parents = nil }},
		{"one Parent", true, func(s *api.State) { s.Commits[1].Parents = []int{1} }},
		{"the same Parent twice, above the Num", true, func(s *api.State) { s.Commits[1].Parents = []int{9, 9} }},
		{"three Parents", false, func(s *api.State) { s.Commits[1].Parents = []int{1, 2, 2} }},
		{"many Parents", false, func(s *api.State) { s.Commits[0].Parents = slices.Repeat([]int{1}, 300) }},
		{"a Seq without a Client", true, func(s *api.State) { s.Commits[1].Client = 0 }},
		{"two branches of one Name", true, func(s *api.State) { s.Branches[1].Name = s.Branches[0].Name }},
		{"clients alone", true, func(s *api.State) { *s = api.State{NextCommit: 1, NextBranch: 1, Clients: s.Clients} }},
	}
	for _, d := range wrong {
		l = append(l, turn{"a wrong Delta", false, func(s *api.State) { s.Commits[1].Delta = d }}, turn{"a wrong Other", false, func(s *api.State) { s.Commits[0].Other = d }})
	}
	for _, d := range right {
		l = append(l, turn{"a Delta that may be", true, func(s *api.State) { s.Commits[1].Delta = d }}, turn{"an Other that may be", true, func(s *api.State) { s.Commits[0].Other = d }})
	}
	return l
}

func TestShapes(t *testing.T) {
	for _, c := range shapeTurns() {
		s := plain(small())
		c.do(&s)
		if c.ok {
			accepted(t, c.what, s)
		} else {
			refused(t, c.what, s)
		}
		if t.Failed() {
			return
		}
	}
}

// TestShapesNotLoaded: a delta that may not be has no form, so that it is left out here.
func TestShapesNotLoaded(t *testing.T) {
	for _, c := range shapeTurns() {
		if !c.ok && !strings.HasPrefix(c.what, "a wrong") {
			hold(t, c)
		}
	}
}

// many is a state with so many of each.
func many(commits int, branches int, log int, clients int) api.State {
	s := api.State{NextCommit: commits + 1, NextBranch: branches + 1}
	for i := range commits {
		s.Commits = append(s.Commits, api.Commit{Num: i + 1})
	}
	for i := range branches {
		s.Branches = append(s.Branches, api.Branch{Id: i + 1, Name: "a", Log: slices.Repeat([]int{7}, log)})
	}
	for i := range clients {
		s.Clients = append(s.Clients, api.Client{Client: i + 1, Branch: 1, Seq: 1})
	}
	return s
}

func TestHowMany(t *testing.T) {
	for _, s := range []api.State{many(0, 0, 0, 0), many(1, 1, 1, 1), many(299, 19, 299, 7), many(300, 20, 300, 8), many(300, 1, 0, 0), many(0, 20, 0, 0), many(0, 1, 300, 0), many(0, 0, 0, 8)} {
		accepted(t, "as many as can be", s)
	}
	for _, s := range []api.State{many(301, 1, 1, 1), many(1, 21, 1, 1), many(1, 1, 301, 1), many(1, 1, 1, 9), many(1000, 0, 0, 0), many(0, 300, 0, 0), many(0, 1, 1000, 0), many(0, 0, 0, 300)} {
		refused(t, "one too many", s)
		notLoaded(t, "one too many", pairsOf(s))
	}
}

func TestNames(t *testing.T) {
	named := func(name string) api.State {
		return api.State{NextCommit: 1, NextBranch: 2, Branches: []api.Branch{{Id: 1, Name: name}}}
	}
	hold := func(name string, ok bool) {
		if s := named(name); ok {
			accepted(t, "Name "+show(name), s)
		} else {
			refused(t, "Name "+show(name), s)
			notLoaded(t, "Name "+show(name), pairsOf(s))
		}
	}
	for c := range 256 {
		b := string([]byte{byte(c)})
		ok := strings.Contains("abcdefghijklmnopqrstuvwxyz0123456789", b)
		for _, name := range []string{b, b + "a", "z" + b, "0" + b + "9", strings.Repeat("m", 11) + b, b + strings.Repeat("5", 11), strings.Repeat(b, 12)} {
			hold(name, ok)
		}
	}
	for n := range 30 {
		hold(strings.Repeat("a", n), 1 <= n && n <= 12)
	}
	for _, name := range []string{"é", "aé", "😀", "\xff", "ａ", "a b", "A", strings.Repeat("a", 127), strings.Repeat("a", 128), strings.Repeat("a", 20001), strings.Repeat("a", 268), strings.Repeat("a", 65536+5)} {
		hold(name, false)
	}
}

func TestRandomStates(t *testing.T) {
	r := rand.New(rand.NewSource(15))
	for range 300 {
		if accepted(t, "a random state", someState(r, 1+r.Intn(30))); t.Failed() {
			return
		}
	}
	for range 5 {
		accepted(t, "a great random state", someState(r, 300))
	}
}

// TestLoadOfPairsThatAreMoved: another order, pairs twice, too few, too many.
func TestLoadOfPairsThatAreMoved(t *testing.T) {
	l := pairsOf(small())
	for i := range l {
		without := slices.Delete(slices.Clone(l), i, i+1)
		if holdLoad(t, "one too few", without) == (l[i].Key == "n") {
			t.Errorf("without %q", l[i].Key)
		}
		for j := range len(l) {
			if j != i && holdLoad(t, "another order", slices.Insert(slices.Clone(without), j, l[i])) {
				t.Errorf("%d in the place %d", i, j)
			}
		}
		for j := range len(l) + 1 {
			if holdLoad(t, "one twice", slices.Insert(slices.Clone(l), j, l[i])) {
				t.Errorf("%d again in the place %d", i, j)
			}
		}
	}
	other := pairsOf(many(2, 3, 2, 4))
	for _, p := range other {
		for j := range len(l) + 1 {
			holdLoad(t, "one too many", slices.Insert(slices.Clone(l), j, p))
		}
		for j := range l {
			swapped := slices.Clone(l)
			swapped[j] = p
			holdLoad(t, "one for another", swapped)
		}
	}
}

// TestLoadOfEveryOrder: of all orders of a few pairs one alone is right.
func TestLoadOfEveryOrder(t *testing.T) {
	s := many(2, 2, 1, 1)
	l := pairsOf(s)
	var orders func(at int)
	right := 0
	orders = func(at int) {
		if at == len(l) {
			if holdLoad(t, "an order", l) {
				right++
			}
			return
		}
		for i := at; i < len(l) && !t.Failed(); i++ {
			l[at], l[i] = l[i], l[at]
			orders(at + 1)
			l[at], l[i] = l[i], l[at]
		}
	}
	if orders(0); right != 1 {
		t.Errorf("P15.1: %d orders are loaded", right)
	}
}

// bytewise goes through all texts that come of one by one byte that is another one, is gone, or is put in.
func bytewise(s string, see func(s string)) {
	for i := range len(s) + 1 {
		for c := range 256 {
			see(s[:i] + string([]byte{byte(c)}) + s[i:])
			if i < len(s) && byte(c) != s[i] {
				see(s[:i] + string([]byte{byte(c)}) + s[i+1:])
			}
		}
		if i < len(s) {
			see(s[:i] + s[i+1:])
			see(s[:i])
			see(s[i:])
		}
	}
}

// TestLoadOfPairsThatAreBent: each byte of each key and each value another one, gone, or one more.
func TestLoadOfPairsThatAreBent(t *testing.T) {
	l := pairsOf(small())
	for i := range l {
		was := l[i]
		bytewise(was.Key, func(s string) {
			l[i].Key = s
			if !t.Failed() && s != was.Key && holdLoad(t, "a bent key", l) {
				t.Errorf("key %q for %q", s, was.Key)
			}
		})
		l[i] = was
		bytewise(was.Value, func(s string) {
			l[i].Value = s
			if !t.Failed() {
				holdLoad(t, "a bent value", l)
			}
		})
		l[i] = was
	}
}

func TestLoadOfKeysThatAreNone(t *testing.T) {
	for _, key := range []string{"", "a", "b", "c", "d", "m", "o", "u", "v", "n\x00", "nn", "N", "b\x00", "c\x00", "b\x00\x01\x00", "c\x00\x00\x01", "u\x00\x01", "\x00", "\xff", "u\xff", strings.Repeat("b", 1000)} {
		for _, value := range []string{"", "\x01", "\x01\x01", "\x01\x01a\x00", "\x01\x00\x01\x00\x01\x00\x00\x00", "\x01\x01\x01"} {
			p := api.Pair{Key: key, Value: value}
			next := api.Pair{Key: "n", Value: "\x09\x09"}
			notLoaded(t, show(p), []api.Pair{p})
			notLoaded(t, show(p), []api.Pair{p, next})
			notLoaded(t, show(p), []api.Pair{next, p})
		}
	}
}

// TestLoadOfLongerForms: a number with a group too much, wherever it stands.
func TestLoadOfLongerForms(t *testing.T) {
	for _, s := range []api.State{first(), small(), many(2, 2, 2, 2)} {
		all := pen{}
		all.state(s)
		for i := range all.nums {
			bent := pen{longer: i + 1}
			notLoaded(t, "a longer form", bent.state(s))
		}
	}
	for _, value := range []string{"\x81\x00\x01", "\x01\x81\x00", "\x81\x80\x00\x01", "\x81\x80\x80\x80\x80\x80\x80\x00\x01", "\x80\x80\x80\x80\x80\x80\x80\x02\x01", "\x81\x80\x80\x80\x80\x80\x80\x80\x80\x80\x80\x01", "\x00\x01", "\x01\x00", "\x01", "", "\x01\x01\x00", "\x01\x01\x01"} {
		notLoaded(t, show(value), []api.Pair{{Key: "n", Value: value}})
	}
}

// TestLoadOfGreatCounts: a number of how many, with less behind it than it says.
func TestLoadOfGreatCounts(t *testing.T) {
	for _, n := range []int{1, 2, 3, 299, 300, 301, 20000, 20001, 1 << 32, 1 << 50, 1<<50 + 1, 1 << 60} {
		for _, behind := range []string{"", "\x01", "\x01\x01\x01\x01\x01\x01\x01\x01\x01", strings.Repeat("\x01", 300), strings.Repeat("\x01", 5000)} {
			p := pen{}
			p.num(1)
			p.text("a")
			p.num(n)
			holdLoad(t, "a Log", []api.Pair{p.pair("b\x00\x01"), {Key: "n", Value: "\x09\x09"}})
			p.num(1)
			p.num(n)
			p.value = append(p.value, behind...)
			holdLoad(t, "a Name", []api.Pair{p.pair("b\x00\x01"), {Key: "n", Value: "\x09\x09"}})
			p.num(1)
			p.text("a")
			p.num(n)
			p.value = append(p.value, behind...)
			holdLoad(t, "a Log", []api.Pair{p.pair("b\x00\x01"), {Key: "n", Value: "\x09\x09"}})
			p.num(1, n)
			p.value = append(p.value, behind...)
			holdLoad(t, "Parents", []api.Pair{p.pair("c\x00\x01"), {Key: "n", Value: "\x09\x09"}})
			p.num(1, 0, n)
			p.value = append(p.value, behind...)
			holdLoad(t, "a Delta", []api.Pair{p.pair("c\x00\x01"), {Key: "n", Value: "\x09\x09"}})
		}
	}
}

// TestLoadOfDeltas: deltas that have no form, in place of one that has.
func TestLoadOfDeltas(t *testing.T) {
	for _, form := range []string{"", "\x00", "\x01", "\x00\x00", "\x01\x01\x01", "\x01\x01\x00", "\x01\x02\x01x", "\x01\x02\x00", "\x01\x02\x01\xff", "\x01\x03\x02", "\x01\x04\x01", "\x01\x01\xe8\x07", "\x01\x01\xe9\x07", "\x02\x01\xe8\x07\x02\x01x", "\x80\x00", "\x01\x01\x81\x00", "\x02\x01\x01\x01\x01"} {
		for _, first := range []bool{true, false} {
			p := pen{}
			p.num(1, 0)
			if !first {
				p.text("\x00")
			}
			p.text(form)
			if first {
				p.text("\x00")
			}
			p.num(0, 0)
			holdLoad(t, "a delta", []api.Pair{p.pair("c\x00\x01"), {Key: "n", Value: "\x02\x01"}})
		}
	}
}

func TestLoadOfRandomPairs(t *testing.T) {
	r := rand.New(rand.NewSource(16))
	loadedOnes := 0
	for range 20000 {
		l := pairsOf(someState(r, 3))
		from := pairsOf(someState(r, 3))
		for range 1 + r.Intn(3) {
			i, j := r.Intn(len(l)), r.Intn(len(from))
			switch r.Intn(6) {
			case 0:
				l[i] = from[j]
			case 1:
				l[i].Value = from[j].Value
			case 2:
				l[i].Key = from[j].Key
			case 3:
				l = slices.Insert(l, i, from[j])
			case 4:
				if len(l) > 1 {
					l = slices.Delete(l, i, i+1)
				}
			case 5:
				b := []byte(l[i].Value)
				b[r.Intn(len(b))] = byte(r.Intn(256))
				l[i].Value = string(b)
			}
		}
		if holdLoad(t, "random pairs", l) {
			loadedOnes++
		}
		if t.Failed() {
			return
		}
	}
	if loadedOnes < 500 {
		t.Errorf("only %d were pairs of a state", loadedOnes)
	}
}

// moved is a state with some of it turned, taken out or put in.
func moved(r *rand.Rand, s api.State) api.State {
	s = plain(s)
	for range r.Intn(5) {
		other := someState(r, 30)
		switch r.Intn(8) {
		case 0:
			s.Branches, s.NextBranch = other.Branches, other.NextBranch
		case 1:
			s.Clients = other.Clients
		case 2:
			s.NextCommit += r.Intn(3)
		case 3:
			s.Commits, s.NextCommit = other.Commits, other.NextCommit
		case 4:
			if n := len(s.Commits); n > 0 {
				s.Commits = slices.Delete(s.Commits, r.Intn(n), n)
			}
		case 5:
			for i := range s.Commits {
				if r.Intn(4) == 0 {
					s.Commits[i] = someCommit(r, s.Commits[i].Num)
				}
			}
		case 6:
			s.Commits = slices.DeleteFunc(s.Commits, func(c api.Commit) bool { return r.Intn(3) == 0 })
		case 7:
			for i := range s.Branches {
				s.Branches[i].Log = append(s.Branches[i].Log, someNum(r, 1000000))
			}
		}
	}
	return s
}

func TestChanges(t *testing.T) {
	s := small()
	turned := plain(s)
	turned.NextCommit = 5
	turned.Commits = append(turned.Commits, api.Commit{Num: 4, Parents: []int{3}})
	turned.Commits[0].Seq = 7
	turned.Branches = []api.Branch{{Id: 1, Name: "c"}, turned.Branches[1]}
	turned.Clients = turned.Clients[:1]
	put, out, e := record.Changes(s, turned)
	wantPut := []api.Pair{{Key: "b\x00\x01", Value: "\x01\x01c\x00"}, {Key: "c\x00\x01", Value: "\x01\x00\x05\x01\x02\x02\xc3\xa9\x01\x00\x00\x07"}, {Key: "c\x00\x04", Value: "\x04\x01\x03\x01\x00\x01\x00\x00\x00"}, {Key: "n", Value: "\x05\x09"}}
	if !slices.Equal(put, wantPut) || !slices.Equal(out, []string{"b\x00\x02", "u\x08"}) || e != api.OK {
		t.Errorf("P15.2: %q, %q, %d", put, out, e)
	}
	put, out, e = record.Changes(turned, s)
	if len(put) != 4 || !slices.Equal(out, []string{"b\x00\x01", "c\x00\x04"}) || e != api.OK {
		t.Errorf("P15.2: back: %q, %q, %d", put, out, e)
	}
	r := rand.New(rand.NewSource(17))
	for range 1500 {
		s := someState(r, 20)
		if holdChanges(t, "random states", s, moved(r, s)); t.Failed() {
			return
		}
	}
	holdChanges(t, "to the full state", small(), full())
	holdChanges(t, "from the full state", full(), small())
}

// overlap tells whether two texts share memory. Texts of one byte may be the runtime's own.
func overlap(a string, b string) bool {
	if len(a) < 2 || len(b) < 2 {
		return false
	}
	x, y := uintptr(unsafe.Pointer(unsafe.StringData(a))), uintptr(unsafe.Pointer(unsafe.StringData(b)))
	return x < y+uintptr(len(b)) && y < x+uintptr(len(a))
}

func textsOf(s api.State) []string {
	var l []string
	for _, c := range s.Commits {
		for _, o := range slices.Concat(c.Delta, c.Other) {
			l = append(l, o.Text)
		}
	}
	for _, b := range s.Branches {
		l = append(l, b.Name)
	}
	return l
}

func textsOfPairs(l []api.Pair) []string {
	var texts []string
	for _, p := range l {
		texts = append(texts, p.Key, p.Value)
	}
	return texts
}

func apart(t *testing.T, what string, answer []string, argument []string) {
	t.Helper()
	for i, a := range answer {
		for _, b := range argument {
			if overlap(a, b) {
				t.Fatalf("R5: %s: %s is a piece of what was handed in", what, show(a))
			}
		}
		for _, b := range answer[:i] {
			if overlap(a, b) {
				t.Fatalf("R5: %s: two texts of the answer share memory", what)
			}
		}
	}
}

func TestTextsAreNewMemory(t *testing.T) {
	s := small()
	s.Commits[0].Delta = ops(ins("a long text"), ins("another one"))
	s.Branches[0].Name = "alongname"
	l, _ := record.Pairs(s)
	apart(t, "Pairs", textsOfPairs(l), textsOf(s))
	back, _ := record.Load(l)
	apart(t, "Load", textsOf(back), textsOfPairs(l))
	put, out, _ := record.Changes(s, many(1, 1, 1, 1))
	apart(t, "Changes", append(textsOfPairs(put), out...), textsOf(s))
}

// scribble writes over a list and over its spare room.
func scribble[T any](l []T, with T) {
	l = l[:cap(l)]
	for i := range l {
		l[i] = with
	}
}

func TestListsAreNewMemory(t *testing.T) {
	want := pairsOf(small())
	s := small()
	l, _ := record.Pairs(s)
	back, _ := record.Load(l)
	put, out, _ := record.Changes(first(), s)
	scribble(l, api.Pair{})
	scribble(put, api.Pair{})
	scribble(out, "")
	if !same(back, small()) || !same(s, small()) {
		t.Errorf("R5: a list of pairs is shared")
	}
	lists := 0
	for i := range back.Commits {
		c := &back.Commits[i]
		for _, d := range []*[]api.Op{&c.Delta, &c.Other} {
			kept := slices.Clone(*d)
			scribble(*d, api.Op{})
			*d, lists = kept, lists+1
		}
		kept := slices.Clone(c.Parents)
		scribble(c.Parents, -1)
		c.Parents = kept
	}
	for i := range back.Branches {
		kept := slices.Clone(back.Branches[i].Log)
		scribble(back.Branches[i].Log, -1)
		back.Branches[i].Log = kept
	}
	if !same(back, small()) || lists != 4 {
		t.Errorf("R5: two lists of one answer share memory: %s", show(back))
	}
	scribble(back.Commits, api.Commit{})
	scribble(back.Branches, api.Branch{})
	scribble(back.Clients, api.Client{})
	if again, e := record.Pairs(s); !slices.Equal(again, want) || e != api.OK {
		t.Errorf("R5: %s, %d", show(again), e)
	}
}

// TestNothingIsKept: what one call was given does not show in the next one.
func TestNothingIsKept(t *testing.T) {
	for range 3 {
		accepted(t, "the small state", small())
		refused(t, "the zero state", api.State{})
		notLoaded(t, "no pairs", nil)
		accepted(t, "the first state", first())
	}
}
