package dag_test

import (
	"fmt"
	"math"
	"math/rand"
	"slices"
	"strings"
	"testing"

	"oxbow/api"
	"oxbow/dag"
)

func link(num int, parents ...int) api.Link { return api.Link{Num: num, Parents: parents} }
func links(l ...api.Link) []api.Link        { return l }

// row is a graph of so many links, each of them the child of the one ahead.
func row(n int) []api.Link {
	var l []api.Link
	for num := 1; num <= n; num++ {
		if num == 1 {
			l = append(l, link(1))
		} else {
			l = append(l, link(num, num-1))
		}
	}
	return l
}

func upTo(n int) []int {
	var l []int
	for i := 1; i <= n; i++ {
		l = append(l, i)
	}
	return l
}

// show tells links in a line, however many there are.
func show(l []api.Link) string {
	const most = 8
	var out []string
	for _, x := range l[:min(most, len(l))] {
		out = append(out, fmt.Sprintf("%d of %d", x.Num, x.Parents[:min(4, len(x.Parents))]))
	}
	if len(l) > most {
		out = append(out, fmt.Sprintf(".. %d in all", len(l)))
	}
	return strings.Join(out, "; ")
}

// isGraph is P13.1 by its words.
func isGraph(l []api.Link) bool {
	if len(l) > 300 {
		return false
	}
	for i, x := range l {
		if x.Num < 1 || x.Num > 300 || i > 0 && x.Num <= l[i-1].Num || len(x.Parents) > 2 {
			return false
		}
		for _, p := range x.Parents {
			if !slices.ContainsFunc(l[:i], func(y api.Link) bool { return y.Num == p }) {
				return false
			}
		}
		if len(x.Parents) == 2 && x.Parents[0] == x.Parents[1] {
			return false
		}
	}
	return true
}

// A table tells of two places in a graph whether the first one's number is Above the second one's.
type table [][]bool

func tableOf(l []api.Link) table {
	t := make(table, len(l))
	for i := range t {
		t[i] = make([]bool, len(l))
		t[i][i] = true
	}
	at := map[int]int{}
	for i, x := range l {
		at[x.Num] = i
		for _, p := range x.Parents {
			for up := range i {
				t[up][i] = t[up][i] || t[up][at[p]]
			}
		}
	}
	return t
}

// some are the Nums of the places of which a function says so.
func some(l []api.Link, is func(i int) bool) []int {
	var nums []int
	for i, x := range l {
		if is(i) {
			nums = append(nums, x.Num)
		}
	}
	return nums
}

// common is P13.3 by its words: places that are above both, and above no other one of them.
func (t table) common(l []api.Link, a int, b int) []int {
	both := func(i int) bool { return t[i][a] && t[i][b] }
	return some(l, func(i int) bool {
		if !both(i) {
			return false
		}
		for j := range l {
			if j != i && both(j) && t[i][j] {
				return false
			}
		}
		return true
	})
}

func checkForm(t *testing.T, l []api.Link) {
	t.Helper()
	want := api.OK
	if !isGraph(l) {
		want = api.ErrDagForm
	}
	if e := dag.Check(l); e != want {
		t.Errorf("P13.1: Check(%s) = %d, want %d", show(l), e, want)
	}
	if want == api.OK {
		return
	}
	if a, e := dag.Above(l, 1); len(a) > 0 || e != want {
		t.Errorf("P13.2: Above(%s, 1) = %d, %d", show(l), a, e)
	}
	if c, e := dag.Common(l, 1, 2); len(c) > 0 || e != want {
		t.Errorf("P13.3: Common(%s, 1, 2) = %d, %d", show(l), c, e)
	}
	if n := dag.Tips(l); len(n) > 0 {
		t.Errorf("P13.4: Tips(%s) = %d", show(l), n)
	}
}

// checkGraph holds all answers about a graph against the chapter's words; of the pairs of places only each step-th.
func checkGraph(t *testing.T, l []api.Link, step int) {
	t.Helper()
	if e := dag.Check(l); e != api.OK {
		t.Errorf("P13.1: Check(%s) = %d", show(l), e)
		return
	}
	tab := tableOf(l)
	tips := some(l, func(i int) bool {
		return !slices.ContainsFunc(l, func(x api.Link) bool { return slices.Contains(x.Parents, l[i].Num) })
	})
	if n := dag.Tips(l); !slices.Equal(n, tips) {
		t.Errorf("P13.4: Tips(%s) = %d, want %d", show(l), n, tips)
	}
	for i, x := range l {
		want := some(l, func(j int) bool { return tab[j][i] })
		if a, e := dag.Above(l, x.Num); !slices.Equal(a, want) || e != api.OK {
			t.Errorf("P13.2: Above(%s, %d) = %d, %d, want %d", show(l), x.Num, a, e, want)
		}
	}
	for pair := 0; pair < len(l)*len(l); pair += step {
		i, j := pair/len(l), pair%len(l)
		want := tab.common(l, i, j)
		if c, e := dag.Common(l, l[i].Num, l[j].Num); !slices.Equal(c, want) || e != api.OK {
			t.Errorf("P13.3: Common(%s, %d, %d) = %d, %d, want %d", show(l), l[i].Num, l[j].Num, c, e, want)
		}
	}
}

func TestCheckEdges(t *testing.T) {
	gone := row(300) // 299 links: the number 7 is left out
	gone = slices.Delete(gone, 6, 7)
	gone[6].Parents = nil
	tooMany := append(row(300), link(300))
	for _, c := range []struct {
		what string
		l    []api.Link
		ok   bool
	}{
		{"no links", nil, true},
		{"no links, but a list", links(), true},
		{"300 links", row(300), true},
		{"301 links, the last Num 301", row(301), false},
		{"301 links, the last Num 300", tooMany, false},
		{"a number left out", gone, true},
		{"Num 0", links(link(0)), false},
		{"Num -1", links(link(-1)), false},
		{"the lowest Num", links(link(math.MinInt)), false},
		{"the highest Num", links(link(math.MaxInt)), false},
		{"Num 1", links(link(1)), true},
		{"Num 300", links(link(300)), true},
		{"Num 301", links(link(301)), false},
		{"Num 301 behind another one", links(link(300), link(301)), false},
		{"numbers left out", links(link(3), link(7, 3), link(300, 7, 3)), true},
		{"a Num equal to the one ahead", links(link(2), link(2)), false},
		{"a Num below the one ahead", links(link(2), link(1)), false},
		{"a Num below the one ahead, above an earlier one", links(link(1), link(5), link(3)), false},
		{"a Num 0 behind another one", links(link(1), link(0)), false},
		{"no Parents", links(link(1), link(2)), true},
		{"one", links(link(1), link(2, 1)), true},
		{"two", links(link(1), link(2), link(3, 1, 2)), true},
		{"two, the greater one first", links(link(1), link(2), link(3, 2, 1)), true},
		{"three", links(link(1), link(2), link(3), link(4, 1, 2, 3)), false},
		{"three, two of them the same", links(link(1), link(2), link(4, 1, 2, 1)), false},
		{"a Parent that is its own Num", links(link(1), link(2, 2)), false},
		{"the second Parent is its own Num", links(link(1), link(2, 1, 2)), false},
		{"a Parent that stands behind", links(link(1, 2), link(2)), false},
		{"a second Parent that stands behind", links(link(1), link(2, 1, 3), link(3)), false},
		{"a Parent that is nobody's", links(link(1), link(3, 2)), false},
		{"a second Parent that is nobody's", links(link(1), link(4), link(5, 4, 3)), false},
		{"a Parent 0", links(link(1), link(2, 0)), false},
		{"a Parent -1", links(link(1), link(2, -1)), false},
		{"two that are the same", links(link(1), link(2, 1, 1)), false},
		{"only the last link may not be", append(row(299), link(300, 300)), false},
		{"only the first link may not be", append(links(link(1, 1)), row(300)[1:]...), false},
	} {
		if isGraph(c.l) != c.ok {
			t.Errorf("%s: the test's own words say otherwise", c.what)
		}
		checkForm(t, c.l)
	}
}

// rows are all rows of at most n elements of a list.
func rows[T any](of []T, n int) [][]T {
	all := [][]T{nil}
	last := all
	for range n {
		var longer [][]T
		for _, l := range last {
			for _, x := range of {
				longer = append(longer, append(slices.Clone(l), x))
			}
		}
		all = append(all, longer...)
		last = longer
	}
	return all
}

func linksOf(nums []int, parents [][]int) []api.Link {
	var l []api.Link
	for _, n := range nums {
		for _, p := range parents {
			l = append(l, link(n, p...))
		}
	}
	return l
}

func TestCheckSmall(t *testing.T) {
	two := linksOf([]int{-1, 0, 1, 2, 299, 300, 301}, rows([]int{0, 1, 2, 300}, 3))
	for _, l := range rows(two, 2) {
		checkForm(t, l)
		if t.Failed() {
			return
		}
	}
	three := linksOf([]int{1, 2, 3}, rows([]int{1, 2, 3}, 2))
	for _, l := range rows(three, 3) {
		checkForm(t, l)
		if t.Failed() {
			return
		}
	}
}

// graphs goes through all graphs whose Nums are these.
func graphs(nums []int, do func(l []api.Link)) {
	var grow func(l []api.Link)
	grow = func(l []api.Link) {
		if len(l) == len(nums) {
			do(l)
			return
		}
		ahead := nums[:len(l)]
		n := nums[len(l)]
		grow(append(l, link(n)))
		for _, p := range ahead {
			grow(append(l, link(n, p)))
			for _, q := range ahead {
				if p != q {
					grow(append(l, link(n, p, q)))
				}
			}
		}
	}
	grow(nil)
}

func TestSmallGraphs(t *testing.T) {
	for _, nums := range [][]int{{}, {300}, {1, 2}, {2, 3, 9}, {1, 2, 3, 4}, {1, 3, 4, 299, 300}} {
		graphs(nums, func(l []api.Link) {
			if !t.Failed() {
				checkGraph(t, l, 1)
			}
		})
	}
	graphs([]int{1, 2, 3, 5, 6, 7}, func(l []api.Link) {
		if !t.Failed() {
			checkGraph(t, l, 5)
		}
	})
}

// someGraph is a graph of n links; near: how far up parents are looked for.
func someGraph(r *rand.Rand, n int, near int) []api.Link {
	nums := r.Perm(300)[:n]
	slices.Sort(nums)
	var l []api.Link
	for i, num := range nums {
		x := link(num + 1)
		for range min(i, r.Intn(3)) {
			if p := l[i-1-r.Intn(min(i, near))].Num; !slices.Contains(x.Parents, p) {
				x.Parents = append(x.Parents, p)
			}
		}
		l = append(l, x)
	}
	return l
}

func TestGreatGraphs(t *testing.T) {
	r := rand.New(rand.NewSource(13))
	for i := 0; i < 300 && !t.Failed(); i++ {
		checkGraph(t, someGraph(r, 6+r.Intn(30), 2+r.Intn(8)), 3)
	}
	for i := 0; i < 6 && !t.Failed(); i++ {
		checkGraph(t, someGraph(r, 300, 2+i*i*4), 997)
	}
	checkGraph(t, row(300), 997)
}

// One number of a graph is turned into another one, which may be a fault or not.
func TestOneFault(t *testing.T) {
	r := rand.New(rand.NewSource(131))
	for i := 0; i < 20000 && !t.Failed(); i++ {
		l := someGraph(r, 1+r.Intn(12), 4)
		x := &l[r.Intn(len(l))]
		num := l[r.Intn(len(l))].Num + r.Intn(3) - 1
		switch r.Intn(3) {
		case 0:
			x.Num = num
		case 1:
			x.Parents = append(x.Parents, num)
		case 2:
			if len(x.Parents) > 0 {
				x.Parents[r.Intn(len(x.Parents))] = num
			}
		}
		checkForm(t, l)
	}
}

func TestExample(t *testing.T) {
	l := links(link(1), link(2, 1), link(3, 1), link(4, 2, 3), link(5, 3, 2))
	if a, e := dag.Above(l, 4); !slices.Equal(a, []int{1, 2, 3, 4}) || e != api.OK {
		t.Errorf("Above 4: %d, %d", a, e)
	}
	for _, c := range []struct {
		a, b int
		want []int
	}{{2, 3, []int{1}}, {4, 5, []int{2, 3}}, {2, 4, []int{2}}} {
		if x, e := dag.Common(l, c.a, c.b); !slices.Equal(x, c.want) || e != api.OK {
			t.Errorf("Common %d %d: %d, %d", c.a, c.b, x, e)
		}
	}
	if n := dag.Tips(l); !slices.Equal(n, []int{4, 5}) {
		t.Errorf("Tips: %d", n)
	}
}

func TestAboveEdges(t *testing.T) {
	for _, c := range []struct {
		what string
		l    []api.Link
		n    int
		want []int
		e    api.Errno
	}{
		{"no links", nil, 1, nil, api.ErrDagNone},
		{"0", row(3), 0, nil, api.ErrDagNone},
		{"-1", row(3), -1, nil, api.ErrDagNone},
		{"behind the last Num", row(3), 4, nil, api.ErrDagNone},
		{"a number left out", links(link(1), link(3, 1)), 2, nil, api.ErrDagNone},
		{"the highest number", row(3), math.MaxInt, nil, api.ErrDagNone},
		{"the lowest number", row(3), math.MinInt, nil, api.ErrDagNone},
		{"no graph, and no Num", links(link(1), link(1)), 7, nil, api.ErrDagForm},
		{"no graph, and a Num", links(link(1), link(2, 3)), 1, nil, api.ErrDagForm},
		{"without parents", row(3), 1, []int{1}, api.OK},
		{"the last of a row", row(300), 300, upTo(300), api.OK},
		{"the midst of a row", row(300), 150, upTo(150), api.OK},
		{"by two ways, once", links(link(1), link(2, 1), link(3, 1), link(4, 3, 2)), 4, upTo(4), api.OK},
		{"by a short way and a long one", links(link(1), link(2, 1), link(3, 2), link(4, 1, 3)), 4, upTo(4), api.OK},
		{"others beside it", links(link(1), link(2), link(3, 1), link(4, 2), link(5, 3)), 5, []int{1, 3, 5}, api.OK},
	} {
		if a, e := dag.Above(c.l, c.n); !slices.Equal(a, c.want) || e != c.e {
			t.Errorf("P13.2: %s: %d, %d, want %d, %d", c.what, a, e, c.want, c.e)
		}
	}
}

func TestCommonEdges(t *testing.T) {
	// 9 and 10 are merges crosswise of 5 and 6, which have 2 in common; 8 stands apart.
	l := links(link(2), link(4, 2), link(5, 4), link(6, 2), link(8), link(9, 5, 6), link(10, 6, 5), link(12, 9))
	for _, c := range []struct {
		what string
		a, b int
		want []int
		e    api.Errno
	}{
		{"with itself", 5, 5, []int{5}, api.OK},
		{"with itself, without parents", 2, 2, []int{2}, api.OK},
		{"with its parent", 5, 4, []int{4}, api.OK},
		{"with one further Above", 12, 2, []int{2}, api.OK},
		{"with its second parent", 10, 5, []int{5}, api.OK},
		{"one in common", 5, 6, []int{2}, api.OK},
		{"nothing in common", 12, 8, nil, api.OK},
		{"two in common", 9, 10, []int{5, 6}, api.OK},
		{"two in common, one below", 12, 10, []int{5, 6}, api.OK},
		{"the first is no Num", 3, 5, nil, api.ErrDagNone},
		{"the second is no Num", 5, 3, nil, api.ErrDagNone},
		{"neither is", 1, 300, nil, api.ErrDagNone},
		{"the same that is no Num", 7, 7, nil, api.ErrDagNone},
		{"0", 0, 5, nil, api.ErrDagNone},
		{"the highest and the lowest", math.MaxInt, math.MinInt, nil, api.ErrDagNone},
	} {
		x, e := dag.Common(l, c.a, c.b)
		y, f := dag.Common(l, c.b, c.a)
		if !slices.Equal(x, c.want) || e != c.e {
			t.Errorf("P13.3: %s: %d, %d, want %d, %d", c.what, x, e, c.want, c.e)
		}
		if !slices.Equal(x, y) || e != f {
			t.Errorf("P13.5: %s: %d, %d, changed round %d, %d", c.what, x, e, y, f)
		}
	}
	if x, e := dag.Common(links(link(1), link(2, 2)), 7, 1); len(x) > 0 || e != api.ErrDagForm {
		t.Errorf("P13.3: no graph, and no Num: %d, %d", x, e)
	}
	if x, e := dag.Common(nil, 1, 1); len(x) > 0 || e != api.ErrDagNone {
		t.Errorf("P13.3: no links: %d, %d", x, e)
	}
	wide := links(link(1), link(2), link(3), link(4), link(5, 1, 2), link(6, 3, 4), link(7, 5, 6), link(8, 2, 1), link(9, 4, 3), link(10, 8, 9))
	if x, e := dag.Common(wide, 7, 10); !slices.Equal(x, upTo(4)) || e != api.OK {
		t.Errorf("P13.3: four in common: %d, %d", x, e)
	}
}

func TestTipsEdges(t *testing.T) {
	for _, c := range []struct {
		what string
		l    []api.Link
		want []int
	}{
		{"no links", nil, nil},
		{"one", links(link(300)), []int{300}},
		{"a row", row(300), []int{300}},
		{"apart", links(link(1), link(2), link(5)), []int{1, 2, 5}},
		{"a second parent", links(link(1), link(2), link(3, 1, 2)), []int{3}},
		{"no graph", links(link(1), link(2, 1), link(2)), nil},
		{"301 links", row(301), nil},
	} {
		if n := dag.Tips(c.l); !slices.Equal(n, c.want) {
			t.Errorf("P13.4: %s: %d, want %d", c.what, n, c.want)
		}
	}
}

// What P13.5 says follows, by the package's own answers alone.
func TestWhatFollows(t *testing.T) {
	r := rand.New(rand.NewSource(135))
	for i := 0; i < 400 && !t.Failed(); i++ {
		l := someGraph(r, 1+r.Intn(40), 1+r.Intn(9))
		for range 10 {
			a, b := l[r.Intn(len(l))].Num, l[r.Intn(len(l))].Num
			upA, _ := dag.Above(l, a)
			upB, _ := dag.Above(l, b)
			x, e := dag.Common(l, a, b)
			y, f := dag.Common(l, b, a)
			if e != api.OK || f != api.OK || !slices.Equal(x, y) {
				t.Errorf("P13.5: Common(%s, %d, %d) = %d, %d, changed round %d, %d", show(l), a, b, x, e, y, f)
			}
			var under []int // all that are Above one of Common
			for _, n := range x {
				up, _ := dag.Above(l, n)
				under = append(under, up...)
			}
			for _, n := range upA {
				if slices.Contains(upB, n) && !slices.Contains(under, n) {
					t.Errorf("P13.5: Common(%s, %d, %d) = %d: %d is Above none", show(l), a, b, x, n)
				}
				if one, _ := dag.Common(l, a, n); !slices.Equal(one, []int{n}) {
					t.Errorf("P13.5: Common(%s, %d, %d) = %d", show(l), a, n, one)
				}
			}
		}
	}
}

// What is handed in stays as it is, and what is answered is new memory, its spare room too.
func TestNewMemory(t *testing.T) {
	parents := []int{1, 2, 77, 77}
	fresh := func() []api.Link {
		return append(make([]api.Link, 0, 9), link(1), link(2, 1), api.Link{Num: 3, Parents: parents[:2]})
	}
	l := fresh()
	var kept [][]int
	for range 2 {
		a, _ := dag.Above(l, 3)
		c, _ := dag.Common(l, 3, 2)
		kept = append(kept, a, c, dag.Tips(l))
	}
	for i, k := range kept {
		if want := kept[i%3]; !slices.Equal(k, want) {
			t.Errorf("R6: %d, then %d", want, k)
		}
	}
	for i, k := range kept {
		k = k[:cap(k)]
		for j := range k {
			k[j] = -i - 5
		}
	}
	for i, k := range kept {
		for _, n := range k[:cap(k)] {
			if n != -i-5 {
				t.Errorf("R5: the answers share memory")
			}
		}
	}
	for i, x := range fresh() {
		if l[i].Num != x.Num || !slices.Equal(l[i].Parents, x.Parents) {
			t.Errorf("R5: the links have changed: %s", show(l))
		}
	}
	if !slices.Equal(parents, []int{1, 2, 77, 77}) {
		t.Errorf("R5: Parents' spare room has changed: %d", parents)
	}
	for _, x := range l[:cap(l)][len(l):] {
		if x.Num != 0 || x.Parents != nil {
			t.Errorf("R5: the links' spare room has changed: %v", x)
		}
	}
}

// Rows that are far too long are refused, and that ends.
func TestFarTooLong(t *testing.T) {
	many := make([]int, 1<<20)
	for i := range many {
		many[i] = 1
	}
	checkForm(t, links(link(1), link(2, many...)))
	l := make([]api.Link, 1<<20)
	for i := range l {
		l[i].Num = i + 1
	}
	checkForm(t, l)
}
