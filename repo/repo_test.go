package repo_test

import (
	"math"
	"math/rand"
	"reflect"
	"slices"
	"strings"
	"testing"
	"unsafe"

	"oxbow/api"
	"oxbow/chunks"
	"oxbow/dev"
	"oxbow/record"
	"oxbow/repo"
	"oxbow/state"
	"oxbow/tree"
)

// TestExamples: those of the whole that a repository alone can show.
func TestExamples(t *testing.T) {
	b := newBench(t, 2000)
	// 1
	b.answers(t, create("a"), 1, api.OK)
	b.answers(t, load("a", "abc"), 2, api.OK)
	b.reads(t, "a", "abc")
	b.answers(t, load("a", "axc"), 3, api.OK)
	if d := b.r.State().Commits[2].Delta; !slices.Equal(d, ops(keep(1), ins("x"), gone(1), keep(1))) {
		t.Errorf("example 1: %s", show(d))
	}
	if l := b.answers(t, blame("a"), 3, api.OK).Runs; !slices.Equal(l, []api.Run{run(0, 2, 0, "a"), run(0, 3, 0, "x"), run(0, 2, 2, "c")}) {
		t.Errorf("example 1: %s", show(l))
	}
	// 2
	b.answers(t, fork("b", 2), 2, api.OK)
	b.answers(t, load("b", "abcd"), 4, api.OK)
	other := b.copy(t)
	b.answers(t, mix("a", "b"), 5, api.OK)
	b.reads(t, "a", "axcd")
	other.answers(t, mix("b", "a"), 5, api.OK)
	if x, y := b.answers(t, blame("a"), 5, api.OK).Runs, other.answers(t, blame("b"), 5, api.OK).Runs; !slices.Equal(x, y) {
		t.Errorf("example 2: %s, the other way round %s", show(x), show(y))
	}
	// 3
	for _, x := range [][3]string{{"aXb", "aYb", "aXYb"}, {"aXb", "aXb", "aXXb"}} {
		b := newBench(t, 2000).after(t, create("a"), load("a", "ab"), fork("b", 2), load("a", x[0]), load("b", x[1]))
		other := b.copy(t)
		b.after(t, mix("a", "b")).reads(t, "a", x[2])
		other.after(t, mix("b", "a")).reads(t, "b", x[2])
	}
	// 4
	b = newBench(t, 2000).after(t, create("a"), load("a", "m"), fork("b", 2), load("a", "xm"), load("b", "my"), fork("c", 3), mix("a", "b"), mix("b", "c"), create("d"))
	b.answers(t, mix("a", "b"), 0, api.ErrMergeMany)
	b.answers(t, mix("a", "d"), 0, api.ErrMergeBase)
	// 5
	b.answers(t, load("a", "\xff"), 0, api.ErrText)
	b.answers(t, load("a", long("x", 1001)), 0, api.ErrStateTooLong)
	b.answers(t, edit("a", keep(9)), 0, api.ErrDeltaLength)
	b.reads(t, "a", "xmy")
}

// TestExamplesOfEditors: what the examples 6 to 8 ask of the repository.
func TestExamplesOfEditors(t *testing.T) {
	b := newBench(t, 2000).after(t, create("a"), load("a", "abc"))
	b.after(t, edit("a", keep(1), ins("2"), keep(2)))
	one := sent(1, 1, 1, 1, keep(1), ins("1"), keep(2))
	b.hears(t, one, api.OK)
	b.reads(t, "a", "a21bc")
	// 8: the letter is doubled.
	b.hears(t, one, api.OK)
	b.reads(t, "a", "a21bc")
	b.hears(t, sent(1, 2, 1, 3, keep(5), ins("!")), api.OK)
	b.reads(t, "a", "a21bc!")
	b.hears(t, pull(1, 1, 1), api.OK,
		api.Message{Kind: api.MsgNext, Branch: 1, Client: 1, Rev: 2, Delta: ops(keep(1), ins("2"), keep(2))},
		api.Message{Kind: api.MsgNext, Branch: 1, Client: 1, Rev: 3, Who: 1, Seq: 1, Delta: ops(keep(2), ins("1"), keep(2))},
		api.Message{Kind: api.MsgNext, Branch: 1, Client: 1, Rev: 4, Who: 1, Seq: 2, Delta: ops(keep(5), ins("!"))})
	// 10
	b.after(t, fork("b", 2), load("b", "other"), remove("b"))
	was := b.r.State()
	b.answers(t, sweep(), 1, api.OK)
	was.Commits = slices.DeleteFunc(was.Commits, func(c api.Commit) bool { return c.Num == 6 })
	if s := b.r.State(); !same(s, was) {
		t.Errorf("example 10: %s, want %s", show(s), show(was))
	}
}

func TestNewAndOpenOfNil(t *testing.T) {
	if r, e := repo.New(nil); r != nil || e != api.ErrArg {
		t.Errorf("P22.1: New(nil): %v, %d", r, e)
	}
	if r, e := repo.Open(nil); r != nil || e != api.ErrArg {
		t.Errorf("P22.1: Open(nil): %v, %d", r, e)
	}
}

// TestNewOnDevices: of all sizes, up and down, empty and not: as a store is made there.
func TestNewOnDevices(t *testing.T) {
	made := 0
	for sectors := api.MinSectors; sectors <= 300; sectors++ {
		for _, bent := range []func(d *dev.Dev){
			func(*dev.Dev) {},
			func(d *dev.Dev) { d.Fuse(0) },
			func(d *dev.Dev) { d.Write(3, long("x", 64)) },
			func(d *dev.Dev) { d.Write(3, long("x", 64)); d.Sync() },
			func(d *dev.Dev) { d.Write(3, long("x", 64)); d.Fuse(0) },
			func(d *dev.Dev) { d.Write(3, long("\x00", 64)) },
			func(d *dev.Dev) { d.Write(3, long("x", 64)); d.Crash("") },
		} {
			d := newDev(t, sectors)
			bent(d)
			c := d.Copy()
			k, want := chunks.New(c)
			if want == api.OK {
				want = k.Write([]api.Pair{{Key: "n", Value: "\x01\x01"}}, nil)
			}
			r, e := repo.New(d)
			if e != want || (r == nil) != (e != api.OK) {
				t.Fatalf("P22.1: New on %d sectors: %d, want %d", sectors, e, want)
			}
			if imprint(d) != imprint(c) {
				t.Fatalf("P22.1: New on %d sectors: %d: other sectors were written than the store's", sectors, e)
			}
			if e != api.OK {
				continue
			}
			made++
			if s := r.State(); !same(s, state.New()) {
				t.Fatalf("P22.1: New: %s", show(s))
			}
			d.Crash("")
			opened(t, d, state.New())
		}
	}
	if made < 400 {
		t.Errorf("P22.1: only %d were made", made)
	}
	for _, sectors := range []int{8, 31, 32, 40} {
		if r, e := repo.New(newDev(t, sectors)); r != nil || e != api.ErrNoSpace {
			t.Errorf("P22.1: New on %d sectors: %d", sectors, e)
		}
		if r, e := repo.Open(newDev(t, sectors)); r != nil || e != api.ErrNoSpace {
			t.Errorf("P22.1: Open on %d sectors: %d", sectors, e)
		}
	}
}

// TestNewWhereOneIs: chunks.New's error, whatever stands there, and nothing is changed.
func TestNewWhereOneIs(t *testing.T) {
	b := some(t, 2000)
	was := imprint(b.d)
	if r, e := repo.New(b.d); r != nil || e != api.ErrChunksForm || imprint(b.d) != was {
		t.Errorf("P22.1: New where a repository is: %d", e)
	}
	b.reads(t, "a", "1axc2")
	// A store from which all was taken out is not an empty device.
	put(t, b.d, nil, storeOn(t, b.d).Keys())
	if r, e := repo.New(b.d); r != nil || e != api.ErrChunksForm {
		t.Errorf("P22.1: New where a store is: %d", e)
	}
}

func TestOpenOnDevices(t *testing.T) {
	d := newDev(t, 300)
	if r, e := repo.Open(d); r != nil || e != api.ErrRepoForm || len(d.Waiting()) != 0 {
		t.Errorf("P22.1: Open of an empty device: %d", e)
	}
	d.Fuse(0)
	if r, e := repo.Open(d); r != nil || e != api.ErrDown {
		t.Errorf("P22.1: Open of one that is down: %d", e)
	}
	// What is no store at all: chunks.Open's error.
	d = newDev(t, 300)
	x, _ := tree.New(d)
	x.Write([]api.Pair{{Key: "n", Value: "\x01\x01"}}, nil)
	if r, e := repo.Open(d); r != nil || e != api.ErrChunksForm {
		t.Errorf("P22.1: Open of a tree: %d", e)
	}
	// A store without keys.
	d = newDev(t, 300)
	put(t, d, []api.Pair{{Key: "n", Value: "\x01\x01"}}, nil)
	put(t, d, nil, []string{"n"})
	if r, e := repo.Open(d); r != nil || e != api.ErrRepoForm {
		t.Errorf("P22.1: Open of a store without keys: %d", e)
	}
	// What a store other than a repository's wrote, if only it is a state's pairs.
	d = newDev(t, 300)
	put(t, d, []api.Pair{{Key: "n", Value: "\x01\x01"}}, nil)
	opened(t, d, state.New())
}

// TestOpenOfWrongPairs: a repository's pairs with one of them bent, gone or added.
func TestOpenOfWrongPairs(t *testing.T) {
	b := some(t, 2000)
	refused := 0
	try := func(what string, sets []api.Pair, dels []string) {
		t.Helper()
		c := b.d.Copy()
		put(t, c, sets, dels)
		k := storeOn(t, c)
		var l []api.Pair
		for _, key := range k.Keys() {
			value, _ := k.Get(key)
			l = append(l, api.Pair{Key: key, Value: value})
		}
		s, e := record.Load(l)
		if e == api.OK {
			opened(t, c, s)
			return
		}
		refused++
		was := imprint(c)
		if r, e := repo.Open(c); r != nil || e != api.ErrRepoForm || imprint(c) != was {
			t.Errorf("P22.1: Open, %s: %d", what, e)
		}
	}
	for _, p := range pairsOf(t, b.s) {
		try("without "+show(p.Key), nil, []string{p.Key})
		for _, v := range []string{"", p.Value + "\x00", p.Value[:len(p.Value)-1], "\x00" + p.Value[1:], "\xff" + p.Value} {
			try(show(p.Key)+" bent", []api.Pair{{Key: p.Key, Value: v}}, nil)
		}
		for _, key := range []string{p.Key + "\x00", "x", "b\xff\xff", "c\xff\xff", "u\x08", "n\x00"} {
			try(show(p.Key)+" under another key", []api.Pair{{Key: key, Value: p.Value}}, []string{p.Key})
			try(show(p.Key)+" under another key too", []api.Pair{{Key: key, Value: p.Value}}, nil)
		}
	}
	if refused < 100 {
		t.Errorf("P22.1: only %d were refused", refused)
	}
}

// TestErrorsOfDo: each Kind with each error of chapter 19, and Kinds that are none. What a refused one leaves, do holds.
func TestErrorsOfDo(t *testing.T) {
	b := some(t, 4000)
	tooLong := long("x", 1001)
	for _, x := range []struct {
		q    api.Request
		want api.Errno
	}{
		{api.Request{}, api.ErrArg}, {api.Request{Kind: -1, Name: "a"}, api.ErrArg}, {api.Request{Kind: 13, Name: "a"}, api.ErrArg}, {api.Request{Kind: math.MaxInt}, api.ErrArg}, {api.Request{Kind: math.MinInt}, api.ErrArg},
		{create(""), api.ErrStateName}, {create("A"), api.ErrStateName}, {create("abcdefghijklm"), api.ErrStateName}, {create("a"), api.ErrStateTwice},
		{load("", "x"), api.ErrStateName}, {load("d", "x"), api.ErrStateNone}, {load("a", "\xff"), api.ErrText}, {load("a", tooLong+"\xff"), api.ErrText}, {load("a", tooLong), api.ErrStateTooLong},
		{edit("", keep(5)), api.ErrStateName}, {edit("d", keep(5)), api.ErrStateNone}, {edit("a", keep(0)), api.ErrDeltaForm}, {edit("a", keep(1000), keep(1)), api.ErrDeltaLength}, {edit("a", keep(4)), api.ErrDeltaLength},
		{fork("", 1), api.ErrStateName}, {fork("a", 1), api.ErrStateTwice}, {fork("a", 99), api.ErrStateTwice}, {fork("d", 0), api.ErrStateNone}, {fork("d", -1), api.ErrStateNone}, {fork("d", 9), api.ErrStateNone},
		{mix("", "b"), api.ErrStateName}, {mix("d", ""), api.ErrStateNone}, {mix("a", ""), api.ErrStateName}, {mix("a", "d"), api.ErrStateNone}, {mix("a", "c"), api.ErrMergeBase},
		{rename("", "d"), api.ErrStateName}, {rename("d", "e"), api.ErrStateNone}, {rename("a", "A"), api.ErrStateName}, {rename("a", "a"), api.ErrStateTwice}, {rename("a", "b"), api.ErrStateTwice},
		{remove(""), api.ErrStateName}, {remove("d"), api.ErrStateNone},
		{read("A"), api.ErrStateName}, {read("d"), api.ErrStateNone}, {blame("A"), api.ErrStateName}, {blame("d"), api.ErrStateNone},
		{log("A"), api.ErrStateName}, {log("d"), api.ErrStateNone}, {tip("A"), api.ErrStateName}, {tip("d"), api.ErrStateNone},
	} {
		b.answers(t, x.q, 0, x.want)
	}
	many := newBench(t, 2000).after(t, create("a"), load("a", "m"), fork("b", 2), load("a", "xm"), load("b", "my"), fork("c", 3), mix("a", "b"), mix("b", "c"))
	many.answers(t, mix("a", "b"), 0, api.ErrMergeMany)
	great := newBench(t, 2000).after(t, create("a"), fork("b", 1), load("a", long("x", 600)), load("b", long("y", 600)))
	great.answers(t, mix("a", "b"), 0, api.ErrStateTooLong)
	for i := range 17 {
		b.after(t, fork("x"+string([]byte{byte('a' + i)}), 1))
	}
	b.answers(t, create("d"), 0, api.ErrStateFull)
	b.answers(t, fork("d", 1), 0, api.ErrStateFull)
}

// TestFull: with 300 commits there ever, nothing new comes, but all else goes; a sweep makes no room for more.
func TestFull(t *testing.T) {
	s := some(t, 1000).s
	for s.NextCommit <= api.MaxCommits {
		var e api.Errno
		if s, _, e = state.Do(s, load("c", []string{"x", "y"}[s.NextCommit%2])); e != api.OK {
			t.Fatalf("P19.3: %d", e)
		}
	}
	b := holding(t, 8192, s)
	for range 2 {
		b.answers(t, create("d"), 0, api.ErrStateFull)
		b.answers(t, load("c", "z"), 0, api.ErrStateFull)
		b.answers(t, edit("c", keep(1), ins("z")), 0, api.ErrStateFull)
		b.answers(t, mix("a", "b"), 0, api.ErrStateFull)
		b.hears(t, sent(3, 3, 1, 4, keep(5)), api.ErrStateFull)
		b.answers(t, mix("a", "a"), 8, api.OK)
		b.after(t, fork("d", 2), remove("d"), sweep())
	}
	b.d.Crash("")
	opened(t, b.d, b.s)
}

// TestEachKind: what each request answers and leaves, on the device too.
func TestEachKind(t *testing.T) {
	b := some(t, 1000)
	b.answers(t, create("d"), 5, api.OK)
	b.answers(t, load("d", "new"), 10, api.OK)
	b.answers(t, edit("d", gone(3), ins("newer")), 11, api.OK)
	b.answers(t, fork("e", 5), 6, api.OK)
	b.answers(t, mix("a", "e"), 12, api.OK)
	b.answers(t, mix("a", "b"), 12, api.OK)
	b.reads(t, "a", "1axc2d")
	b.answers(t, rename("a", "z"), 1, api.OK)
	b.answers(t, remove("c"), 4, api.OK)
	b.answers(t, tip("z"), 12, api.OK)
	if l := b.answers(t, log("z"), 12, api.OK).Log; !slices.Equal(l, []int{1, 2, 4, 5, 7, 8, 12}) {
		t.Errorf("P22.2: log %v", l)
	}
	want := []api.Run{run(3, 1, 0, "1"), run(0, 2, 0, "a"), run(0, 4, 0, "x"), run(0, 2, 2, "c")}
	if l := b.answers(t, blame("z"), 12, api.OK).Runs; !slices.Equal(l[:4], want) {
		t.Errorf("P22.2: blame %s", show(l))
	}
	b.answers(t, sweep(), 2, api.OK) // c's, and f's
	b.answers(t, sweep(), 0, api.OK)
	b.answers(t, fork("c", 3), 0, api.ErrStateNone)
	b.d.Crash("")
	b = opened(t, b.d, b.s)
	b.reads(t, "z", "1axc2d")
	b.reads(t, "d", "newer")
}

// TestNothingIsWritten: what changes nothing writes nothing, so that a fuse of 1 is not burnt.
func TestNothingIsWritten(t *testing.T) {
	b := some(t, 1000).after(t, sweep())
	for _, x := range []any{read("a"), blame("a"), log("a"), tip("a"), mix("a", "a"), sweep(), pull(1, 1, 0), sent(3, 1, 1, 1, ins("1"), keep(3)), sent(3, 0, 1, 1), create("a"), api.Request{}, api.Message{}} {
		b.d.Fuse(1)
		b.any(t, x)
		if !b.d.Up() {
			t.Errorf("P22.2: %s has written", show(x))
		}
		b.d.Fuse(-1)
	}
}

func TestHearEdit(t *testing.T) {
	b := some(t, 1000)
	next := func(seq int) api.Message { return sent(3, seq, 1, 4, keep(5), ins("3")) }
	for _, seq := range []int{math.MinInt, -1, 0, 1, 2} {
		b.hears(t, next(seq), api.OK) // old: nothing comes of it
		b.reads(t, "a", "1axc2")
	}
	for _, seq := range []int{4, 5, math.MaxInt} {
		b.hears(t, next(seq), api.ErrStateGap)
	}
	b.hears(t, sent(1, 2, 1, 4, keep(5)), api.ErrStateGap)
	b.hears(t, sent(1, 0, 1, 4, keep(5)), api.OK)
	for _, client := range []int{math.MinInt, -1, 0, 9, math.MaxInt} {
		b.hears(t, sent(client, 1, 1, 4, keep(5)), api.ErrArg)
	}
	b.hears(t, sent(1, 1, 0, 4, keep(5)), api.ErrStateNone)
	b.hears(t, sent(1, 1, 2, 4, keep(5)), api.ErrStateNone) // f is deleted
	b.hears(t, sent(3, 1, 3, 0, keep(3)), api.ErrStateClient)
	b.hears(t, sent(3, 3, 1, -1, keep(5)), api.ErrStateRange)
	b.hears(t, sent(3, 3, 1, 5, keep(5)), api.ErrStateRange)
	b.hears(t, sent(3, 3, 1, 4, keep(0)), api.ErrDeltaForm)
	b.hears(t, sent(3, 3, 1, 4, keep(4)), api.ErrDeltaLength)
	b.hears(t, sent(3, 3, 1, 4, keep(5), ins(long("x", 996))), api.ErrDeltaLength)
	b.hears(t, sent(3, 3, 1, 1, keep(3), ins(long("x", 997))), api.ErrStateTooLong)
	for _, client := range []int{1, 8} {
		b.hears(t, sent(client, 1, 1, 0, ins("!")), api.OK)
	}
	b.hears(t, next(3), api.OK)
	b.hears(t, next(3), api.OK)
	// The Delta does not say where among all that was put in behind all it came.
	if reply, _ := b.do(t, read("a")); len(reply.Text) != 8 || strings.Count(reply.Text, "!") != 2 || strings.Count(reply.Text, "3") != 1 {
		t.Errorf("P22.3: a reads %s", show(reply.Text))
	}
	b.d.Crash("")
	opened(t, b.d, b.s)
}

func TestHearPull(t *testing.T) {
	b := some(t, 1000)
	want := []api.Message{
		{Kind: 3, Branch: 1, Rev: 1, Delta: ops(ins("abc"))},
		{Kind: 3, Branch: 1, Rev: 2, Delta: ops(keep(1), ins("x"), gone(1), keep(1))},
		{Kind: 3, Branch: 1, Rev: 3, Who: 3, Seq: 1, Delta: ops(ins("1"), keep(3))},
		{Kind: 3, Branch: 1, Rev: 4, Who: 3, Seq: 2, Delta: ops(keep(4), ins("2"))},
	}
	for _, client := range []int{1, 3, 8} {
		for i := range want {
			want[i].Client = client
		}
		for rev := range 5 {
			b.hears(t, pull(client, 1, rev), api.OK, want[rev:]...)
		}
	}
	for _, client := range []int{math.MinInt, -1, 0, 9, math.MaxInt} {
		b.hears(t, pull(client, 1, 0), api.ErrArg)
		b.hears(t, pull(client, 1, 4), api.ErrArg)
		// The revision's error comes first.
		b.hears(t, pull(client, 1, 5), api.ErrStateRange)
		b.hears(t, pull(client, 9, 0), api.ErrStateNone)
	}
	for _, rev := range []int{math.MinInt, -1, 5, math.MaxInt} {
		b.hears(t, pull(1, 1, rev), api.ErrStateRange)
	}
	for _, branch := range []int{math.MinInt, -1, 0, 2, 9, math.MaxInt} {
		b.hears(t, pull(1, branch, 0), api.ErrStateNone)
	}
	b.hears(t, pull(1, 4, 0), api.OK)
	// Fields that a pull does not have are not looked at.
	b.hears(t, api.Message{Kind: api.MsgPull, Client: 2, Branch: 3, Rev: 0, Seq: -7, Who: 99, Delta: ops(keep(0))}, api.OK,
		api.Message{Kind: 3, Client: 2, Branch: 3, Rev: 1, Delta: ops(keep(3), ins("d"))})
}

func TestHearOtherKinds(t *testing.T) {
	b := some(t, 1000)
	for _, kind := range []int{math.MinInt, -1, 0, api.MsgNext, 4, math.MaxInt} {
		b.hears(t, api.Message{Kind: kind}, api.ErrArg)
		b.hears(t, api.Message{Kind: kind, Branch: 1, Client: 1, Seq: 1, Rev: 4, Delta: ops(keep(5))}, api.ErrArg)
	}
}

// each are calls of all kinds, that go and that are refused.
func each() []any {
	return []any{
		create("d"), load("a", "new"), edit("a", keep(5), ins("!")), fork("d", 2), mix("a", "b"), mix("a", "a"), rename("a", "z"), remove("a"), sweep(),
		read("a"), blame("a"), log("a"), tip("a"),
		create("a"), read("nobody"), load("a", "\xff"), api.Request{}, api.Request{Kind: 99},
		sent(1, 1, 1, 4, keep(5), ins("!")), sent(3, 1, 1, 4, keep(5)), sent(3, 9, 1, 4, keep(5)), sent(0, 1, 1, 4),
		pull(1, 1, 0), pull(0, 1, 0), pull(1, 9, 0), api.Message{}, api.Message{Kind: api.MsgNext},
	}
}

// holdLost holds that every call answers ErrDown from now on, that nothing is written, and that the state is as it was.
func (b *bench) holdLost(t *testing.T, what string) {
	t.Helper()
	was := imprint(b.d)
	for _, x := range each() {
		if e := b.any(t, x); e != api.ErrDown {
			t.Errorf("P22.2: %s: %s: %d, want %d", what, show(x), e, api.ErrDown)
		}
	}
	if imprint(b.d) != was {
		t.Errorf("P22.2: %s: a lost repository wrote", what)
	}
}

// TestLost: a device that is down, or was; one that was crashed; a call that answered ErrDown. State alone loses nothing.
func TestLost(t *testing.T) {
	start := some(t, 1000)
	for _, x := range each() {
		b := start.copy(t)
		b.d.Fuse(0)
		b.holdState(t, "down")
		if e := b.any(t, x); e != api.ErrDown {
			t.Fatalf("P22.2: %s on a device that is down: %d", show(x), e)
		}
		b.d.Fuse(-1)
		b.holdLost(t, "up again behind a call")
		b = opened(t, b.d, b.s)
		b.d.Crash("")
		b.holdState(t, "crashed")
		if e := b.any(t, x); e != api.ErrDown {
			t.Fatalf("P22.2: %s behind a crash: %d", show(x), e)
		}
		b.holdLost(t, "crashed")
		b = opened(t, b.d, b.s)
		// Down for a while, without a call but State.
		b.d.Fuse(0)
		b.holdState(t, "down")
		b.d.Fuse(-1)
		b.any(t, x)
		b.after(t, sweep())
	}
}

// TestFuses: each call behind a fuse of so many, and calls behind it.
func TestFuses(t *testing.T) {
	start := some(t, 500)
	for _, x := range each() {
		for _, fuse := range []int{0, 1, 2, 3, 5, 9, 20, 60} {
			b := start.copy(t)
			b.d.Fuse(fuse)
			e := b.any(t, x)
			if fuse == 0 && e != api.ErrDown {
				t.Fatalf("P22.2: %s on a device that is down: %d", show(x), e)
			}
			b.any(t, read("b"))
			b.any(t, pull(1, 3, 0))
			b.d.Fuse(-1)
			b.any(t, load("b", "once more"))
			if e == api.ErrDown {
				b.holdLost(t, "cut off")
			}
		}
	}
}

// TestLastStep: a call whose last write burns the fuse is done, and loses nothing.
func TestLastStep(t *testing.T) {
	start := some(t, 1000)
	for _, x := range []any{create("d"), load("a", "new"), mix("a", "b"), remove("b"), sweep(), sent(1, 1, 1, 4, keep(5), ins("!"))} {
		n := start.copy(t).steps(t, x)
		b := start.copy(t)
		b.d.Fuse(n)
		if e := b.any(t, x); e != api.OK || b.d.Up() {
			t.Fatalf("P22.2: %s with a fuse of %d: %d", show(x), n, e)
		}
		up := b.copyAsItIs()
		b.holdLost(t, "down behind the last step")
		up.d.Crash("")
		opened(t, up.d, up.s)
		b = start.copy(t)
		b.d.Fuse(n)
		b.after(t, x)
		b.d.Fuse(-1)
		b.after(t, read("c"), load("c", "goes on"), sweep())
		// One step less, and it is lost, whatever the next call is.
		for _, y := range each() {
			b = start.copy(t)
			b.d.Fuse(n - 1)
			if e := b.any(t, x); e != api.ErrDown {
				t.Fatalf("P22.2: %s with a fuse of %d: %d", show(x), n-1, e)
			}
			b.d.Fuse(-1)
			if e := b.any(t, y); e != api.ErrDown {
				t.Fatalf("P22.2: %s behind %s, which was cut off: %d", show(y), show(x), e)
			}
			b.holdLost(t, "cut off")
		}
	}
}

// copyAsItIs is a bench with a copy of the device that nobody has opened.
func (b *bench) copyAsItIs() *bench { return &bench{d: b.d.Copy(), s: b.s, age: b.age} }

// steps is how many writes and syncs a call does that ends well.
func (b *bench) steps(t *testing.T, x any) int {
	t.Helper()
	const most = 5000
	b.d.Fuse(most)
	b.after(t, x)
	for n := range most {
		if !b.d.Up() {
			return most - n
		}
		b.d.Sync()
	}
	t.Fatalf("P22.2: %s: more steps than a call may need, or none", show(x))
	return 0
}

// A span is the memory that a list, with its spare room, or a text takes.
type span struct{ from, to uintptr }

func overlap(a span, b span) bool { return a.from < b.to && b.from < a.to }

// spans are those of all lists and all texts of a value. Texts of one byte may be the runtime's own.
func spans(v reflect.Value) []span {
	var l []span
	switch v.Kind() {
	case reflect.Slice:
		if v.Cap() > 0 {
			l = append(l, span{v.Pointer(), v.Pointer() + uintptr(v.Cap())*v.Type().Elem().Size()})
		}
		for i := range v.Len() {
			l = append(l, spans(v.Index(i))...)
		}
	case reflect.Struct:
		for i := range v.NumField() {
			l = append(l, spans(v.Field(i))...)
		}
	case reflect.String:
		if s := v.String(); len(s) > 1 {
			from := uintptr(unsafe.Pointer(unsafe.StringData(s)))
			l = append(l, span{from, from + uintptr(len(s))})
		}
	}
	return l
}

// apart holds that values share no memory with one another.
func apart(t *testing.T, what string, values ...any) {
	t.Helper()
	for i, x := range values {
		for _, y := range values[:i] {
			given := spans(reflect.ValueOf(y))
			for _, a := range spans(reflect.ValueOf(x)) {
				if slices.ContainsFunc(given, func(b span) bool { return overlap(a, b) }) {
					t.Fatalf("R5: %s: %s and %s share memory", what, show(x), show(y))
				}
			}
		}
	}
}

// scribble writes into all that a state has, its spare room too.
func scribble(s api.State) {
	for _, c := range s.Commits {
		scribbleDelta(c.Delta)
		scribbleDelta(c.Other)
		for i := range c.Parents[:cap(c.Parents)] {
			c.Parents[:cap(c.Parents)][i] = -9
		}
	}
	for _, b := range s.Branches {
		for i := range b.Log[:cap(b.Log)] {
			b.Log[:cap(b.Log)][i] = -9
		}
	}
	clear(s.Commits[:cap(s.Commits)])
	clear(s.Branches[:cap(s.Branches)])
	clear(s.Clients[:cap(s.Clients)])
}

func scribbleDelta(d []api.Op) {
	for i := range d[:cap(d)] {
		d[:cap(d)][i] = api.Op{Kind: 9, N: 9, Text: "?"}
	}
}

// TestMemory: what is handed in may be written into behind a call, and what is answered, too.
func TestMemory(t *testing.T) {
	b := some(t, 1000)
	for _, q := range []api.Request{create("dlong"), load("b", "some words"), edit("b", keep(10), ins("more"), ins("words")), fork("elong", 4), mix("a", "b"), rename("b", "blong"), remove("c"), sweep(), read("a"), blame("a"), log("a"), tip("a")} {
		q = api.Request{Kind: q.Kind, Name: strings.Clone(q.Name), Other: strings.Clone(q.Other), Num: q.Num, Text: strings.Clone(q.Text), Delta: slices.Grow(slices.Clone(q.Delta), 9)}
		reply, e := b.do(t, q)
		if e != api.OK {
			t.Fatalf("P22.2: Do(%s): %d", show(q), e)
		}
		one, two := b.r.State(), b.r.State()
		apart(t, "Do("+show(q)+")", q, reply, one, two)
		scribbleDelta(q.Delta)
		scribble(one)
		clear(reply.Runs[:cap(reply.Runs)])
		clear(reply.Log[:cap(reply.Log)])
		b.holdState(t, "behind a scribble")
		b.after(t, read("a"), blame("a"), log("a"))
	}
	for _, m := range []api.Message{sent(3, 3, 1, 4, keep(5), ins("words")), sent(1, 1, 1, 1, keep(3), ins("one"), ins("two")), pull(1, 1, 0)} {
		m.Delta = slices.Grow(slices.Clone(m.Delta), 9)
		l, e := b.hear(t, m)
		if e != api.OK {
			t.Fatalf("P22.3: Hear(%s): %d", show(m), e)
		}
		values := []any{m, b.r.State()}
		for _, x := range l {
			values = append(values, x)
		}
		apart(t, "Hear("+show(m)+")", values...)
		scribbleDelta(m.Delta)
		for _, x := range l {
			scribbleDelta(x.Delta)
		}
		clear(l[:cap(l)])
		b.holdState(t, "behind a scribble")
		b.after(t, pull(1, 1, 0))
	}
	b.d.Crash("")
	opened(t, b.d, b.s)
}

// TestTwoDevices: repositories on two devices know nothing of one another.
func TestTwoDevices(t *testing.T) {
	b, c := some(t, 1000), some(t, 1000)
	c.d.Fuse(3)
	c.any(t, load("a", "lost"))
	b.after(t, load("a", "kept"), sweep())
	c.d.Crash("")
	b.reads(t, "a", "kept")
	c = opened(t, c.d, c.s)
	c.reads(t, "a", "1axc2")
}

// TestTwoOfOne: of two repositories on one device nothing is promised, but that all calls end, and none panics; while one of both only reads, the other one goes on.
func TestTwoOfOne(t *testing.T) {
	b := some(t, 600)
	other := b.copy(t)
	other.d, other.r = b.d, open(t, b.d)
	other.reads(t, "a", "1axc2")
	b.after(t, load("a", "goes on"), sweep())
	for seed := range int64(20) {
		r := rand.New(rand.NewSource(seed))
		d := some(t, 200).d
		l := []*repo.Repo{open(t, d), open(t, d)}
		for range 30 {
			x := l[r.Intn(2)]
			switch y := someCall(r, x.State()).(type) {
			case api.Request:
				x.Do(y)
			case api.Message:
				x.Hear(y)
			}
		}
		repo.Open(d)
	}
}

// TestStrangeDevices: whatever comes to stand on a device, all calls end, and none panics.
func TestStrangeDevices(t *testing.T) {
	start := some(t, 200)
	counts := map[api.Errno]int{}
	for seed := range int64(400) {
		r := rand.New(rand.NewSource(seed))
		b := start.copy(t)
		for range 1 + r.Intn(3) {
			at := r.Intn(90)
			bytes, _ := b.d.Read(at)
			bent := []byte(bytes)
			bent[r.Intn(64)] = byte(r.Intn(256) >> r.Intn(8))
			b.d.Write(at, string(bent))
		}
		again, e := repo.Open(b.d.Copy())
		if counts[e]++; (again == nil) != (e != api.OK) {
			t.Fatalf("R3: Open: %d", e)
		}
		for _, r := range []*repo.Repo{b.r, again} {
			for _, x := range each() {
				if r == nil {
					continue
				}
				switch x := x.(type) {
				case api.Request:
					r.Do(x)
				case api.Message:
					r.Hear(x)
				}
			}
		}
	}
	if counts[api.OK] == 0 || counts[api.ErrChunksForm] == 0 {
		t.Errorf("P22.1: Open answered %v", counts)
	}
}
