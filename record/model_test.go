package record_test

import (
	"encoding/binary"
	"fmt"
	"math/rand"
	"reflect"
	"slices"
	"strings"

	"oxbow/api"
	"oxbow/delta"
)

func keep(n int) api.Op        { return api.Op{Kind: api.OpKeep, N: n} }
func gone(n int) api.Op        { return api.Op{Kind: api.OpDelete, N: n} }
func ins(s string) api.Op      { return api.Op{Kind: api.OpInsert, Text: s} }
func ops(l ...api.Op) []api.Op { return l }

// show tells what there is in a line, however long it is.
func show(x any) string {
	const most = 400
	s := fmt.Sprintf("%q", x)
	if len(s) > most {
		return fmt.Sprintf("%s.. (%d bytes)", s[:most], len(s))
	}
	return s
}

// A pen writes values by the chapter's words, whether what it writes may be or not. It can write one of its numbers with a group too much.
type pen struct {
	value  []byte
	nums   int // how many numbers it has written
	longer int // which of them (from 1 on) has a group too much; 0: none
}

func (p *pen) num(l ...int) {
	for _, n := range l {
		p.value = binary.AppendUvarint(p.value, uint64(n))
		p.nums++
		if p.nums == p.longer {
			p.value[len(p.value)-1] |= 128
			p.value = append(p.value, 0)
		}
	}
}

func (p *pen) text(s string) {
	p.num(len(s))
	p.value = append(p.value, s...)
}

func (p *pen) pair(key string) api.Pair {
	value := string(p.value)
	p.value = nil
	return api.Pair{Key: key, Value: value}
}

func (p *pen) delta(d []api.Op) {
	form, _ := delta.Encode(d)
	p.text(form)
}

func (p *pen) branch(b api.Branch) api.Pair {
	p.num(b.Id)
	p.text(b.Name)
	p.num(len(b.Log))
	p.num(b.Log...)
	return p.pair("b" + string([]byte{byte(b.Id / 256), byte(b.Id % 256)}))
}

func (p *pen) commit(c api.Commit) api.Pair {
	p.num(c.Num, len(c.Parents))
	p.num(c.Parents...)
	p.delta(c.Delta)
	p.delta(c.Other)
	p.num(c.Client, c.Seq)
	return p.pair("c" + string([]byte{byte(c.Num / 256), byte(c.Num % 256)}))
}

func (p *pen) state(s api.State) []api.Pair {
	var l []api.Pair
	for _, b := range s.Branches {
		l = append(l, p.branch(b))
	}
	for _, c := range s.Commits {
		l = append(l, p.commit(c))
	}
	p.num(s.NextCommit, s.NextBranch)
	l = append(l, p.pair("n"))
	for _, c := range s.Clients {
		p.num(c.Client, c.Branch, c.Seq)
		l = append(l, p.pair("u"+string([]byte{byte(c.Client)})))
	}
	return l
}

// pairsOf are a state's pairs, in the order of its lists.
func pairsOf(s api.State) []api.Pair { return new(pen).state(s) }

// An eye reads a list of pairs from its first one to its last one; it is shut at the first thing that is not as a state writes it.
type eye struct {
	left []api.Pair
	rest string
	shut bool
}

// begins tells whether the next pair's key begins so, and opens that pair.
func (y *eye) begins(with byte) (key string, ok bool) {
	if y.shut || len(y.left) == 0 || y.left[0].Key == "" || y.left[0].Key[0] != with {
		return "", false
	}
	key, y.rest, y.left = y.left[0].Key, y.left[0].Value, y.left[1:]
	return key, true
}

func (y *eye) hold(right bool) { y.shut = y.shut || !right }

func (y *eye) num(low int, high int) int {
	if y.shut {
		return 0
	}
	n, size := binary.Uvarint([]byte(y.rest))
	y.hold(size > 0 && size == len(binary.AppendUvarint(nil, n)) && uint64(low) <= n && n <= uint64(high))
	if y.shut {
		return 0
	}
	y.rest = y.rest[size:]
	return int(n)
}

func (y *eye) list(most int, low int, high int) []int {
	var l []int
	for range y.num(0, most) {
		l = append(l, y.num(low, high))
	}
	return l
}

func (y *eye) text(most int) string {
	n := y.num(0, most)
	y.hold(n <= len(y.rest))
	if y.shut {
		return ""
	}
	s := y.rest[:n]
	y.rest = y.rest[n:]
	return s
}

func (y *eye) delta() []api.Op {
	d, e := delta.Decode(y.text(20000))
	y.hold(e == api.OK)
	return d
}

func (y *eye) name() string {
	s := y.text(12)
	y.hold(s != "" && strings.Trim(s, "abcdefghijklmnopqrstuvwxyz0123456789") == "")
	return s
}

func (y *eye) twoBytes(key string, n int) {
	y.hold(y.rest == "" && key[1:] == string([]byte{byte(n >> 8), byte(n)}))
}

// loaded is the state of which these are the pairs, read step by step; false: there is none.
func loaded(l []api.Pair) (api.State, bool) {
	var s api.State
	y := &eye{left: l}
	last := 0
	for key, ok := y.begins('b'); ok; key, ok = y.begins('b') {
		b := api.Branch{Id: y.num(last+1, 65535), Name: y.name(), Log: y.list(300, 1, 1000000)}
		y.twoBytes(key, b.Id)
		s.Branches, last = append(s.Branches, b), b.Id
	}
	lastBranch := last
	last = 0
	for key, ok := y.begins('c'); ok; key, ok = y.begins('c') {
		c := api.Commit{Num: y.num(last+1, 65535), Parents: y.list(2, 1, 1000000), Delta: y.delta(), Other: y.delta(), Client: y.num(0, 8), Seq: y.num(0, 100000)}
		y.twoBytes(key, c.Num)
		s.Commits, last = append(s.Commits, c), c.Num
	}
	key, ok := y.begins('n')
	y.hold(ok && key == "n")
	s.NextCommit, s.NextBranch = y.num(last+1, 1000000), y.num(lastBranch+1, 1000000)
	y.hold(y.rest == "")
	last = 0
	for key, ok := y.begins('u'); ok; key, ok = y.begins('u') {
		c := api.Client{Client: y.num(last+1, 8), Branch: y.num(1, 1000000), Seq: y.num(1, 100000)}
		y.hold(y.rest == "" && key[1:] == string([]byte{byte(c.Client)}))
		s.Clients, last = append(s.Clients, c), c.Client
	}
	y.hold(len(y.left) == 0 && len(s.Commits) <= 300 && len(s.Branches) <= 20)
	if y.shut {
		return api.State{}, false
	}
	return s, true
}

// plain is a copy of a state, down to its last list, in which lists that are empty are nil.
func plain(s api.State) api.State {
	s.Commits, s.Branches, s.Clients = copied(s.Commits), copied(s.Branches), copied(s.Clients)
	for i := range s.Commits {
		c := &s.Commits[i]
		c.Parents, c.Delta, c.Other = copied(c.Parents), copied(c.Delta), copied(c.Other)
	}
	for i := range s.Branches {
		s.Branches[i].Log = copied(s.Branches[i].Log)
	}
	return s
}

func copied[T any](l []T) []T {
	if len(l) == 0 {
		return nil
	}
	return slices.Clone(l)
}

func same(a api.State, b api.State) bool { return reflect.DeepEqual(plain(a), plain(b)) }

// empty tells whether a state is the zero value.
func empty(s api.State) bool { return same(s, api.State{}) }

// small is a state with all kinds of pairs, of few bytes.
func small() api.State {
	return api.State{NextCommit: 4, NextBranch: 9,
		Commits: []api.Commit{
			{Num: 1, Delta: ops(ins("é"))},
			{Num: 3, Parents: []int{1, 2}, Delta: ops(keep(1), ins("x")), Other: ops(gone(2)), Client: 3, Seq: 200},
		},
		Branches: []api.Branch{{Id: 2, Name: "a", Log: []int{1, 300}}, {Id: 8, Name: "b9"}},
		Clients:  []api.Client{{Client: 3, Branch: 2, Seq: 200}, {Client: 8, Branch: 1, Seq: 1}},
	}
}

// full is a state that has as much as can be: all lists at their greatest, all numbers too.
func full() api.State {
	s := api.State{NextCommit: 1000000, NextBranch: 1000000}
	log := make([]int, 300)
	for i := range log {
		log[i] = 1000000 - i
	}
	greatest := slices.Repeat(ops(gone(1), ins("\U0010ffff")), 1000)
	for i := range 300 {
		s.Commits = append(s.Commits, api.Commit{Num: 65535 - 299 + i, Parents: []int{1000000, 1000000}, Delta: greatest, Other: greatest, Client: 8, Seq: 100000})
	}
	for i := range 20 {
		s.Branches = append(s.Branches, api.Branch{Id: 65535 - 19 + i, Name: "zzzzzzzzzzzz", Log: log})
	}
	for i := range 8 {
		s.Clients = append(s.Clients, api.Client{Client: i + 1, Branch: 1000000, Seq: 100000})
	}
	return s
}

func someNum(r *rand.Rand, most int) int {
	few := []int{1, 2, 127, 128, 255, 256, 16383, 16384, 65535, most}
	if n := few[r.Intn(len(few))]; n <= most && r.Intn(2) == 0 {
		return n
	}
	return 1 + r.Intn(most)
}

func someNums(r *rand.Rand, many int) []int {
	var l []int
	for range r.Intn(many + 1) {
		l = append(l, someNum(r, 1000000))
	}
	return l
}

// rising are at most so many numbers from 1 to most, rising.
func rising(r *rand.Rand, many int, most int) []int {
	var l []int
	for range r.Intn(many + 1) {
		l = append(l, someNum(r, most))
	}
	slices.Sort(l)
	return slices.Compact(l)
}

func someDelta(r *rand.Rand) []api.Op {
	of := ops(keep(1), keep(200), gone(1), gone(130), ins("a"), ins("é€😀"), ins(strings.Repeat("b", 130)))
	var d []api.Op
	for range r.Intn(4) {
		d = append(d, of[r.Intn(len(of))])
	}
	return d
}

func someName(r *rand.Rand) string {
	const of = "az09bcdefghij"
	b := make([]byte, 1+r.Intn(12))
	for i := range b {
		b[i] = of[r.Intn(len(of))]
	}
	return string(b)
}

func someCommit(r *rand.Rand, num int) api.Commit {
	return api.Commit{Num: num, Parents: someNums(r, 2), Delta: someDelta(r), Other: someDelta(r), Client: r.Intn(9), Seq: someNum(r, 100000) - r.Intn(2)}
}

func someBranch(r *rand.Rand, id int) api.Branch {
	return api.Branch{Id: id, Name: someName(r), Log: someNums(r, 12)}
}

func someClient(r *rand.Rand, client int) api.Client {
	return api.Client{Client: client, Branch: someNum(r, 1000000), Seq: someNum(r, 100000)}
}

// someState is a state that has a form, with at most so many commits.
func someState(r *rand.Rand, commits int) api.State {
	var s api.State
	for _, n := range rising(r, commits, 65535) {
		s.Commits = append(s.Commits, someCommit(r, n))
		s.NextCommit = n
	}
	for _, n := range rising(r, 20, 65535) {
		s.Branches = append(s.Branches, someBranch(r, n))
		s.NextBranch = n
	}
	for _, n := range rising(r, 8, 8) {
		s.Clients = append(s.Clients, someClient(r, n))
	}
	s.NextCommit += 1 + r.Intn(2)*r.Intn(1000)
	s.NextBranch += 1 + r.Intn(2)*r.Intn(1000)
	return s
}
