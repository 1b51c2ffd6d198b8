package tree

import (
	"maps"
	"slices"

	"oxbow/api"
)

// change is what becomes of a key: it is set to a value, or it goes.
type change struct {
	key   string
	value string
	set   bool
}

func (c change) at() string { return c.key }

// check tells what stands against a Write, whatever there is room for.
func check(sets []api.Pair, dels []string) api.Errno {
	for _, x := range sets {
		if !isKey(x.Key) {
			return api.ErrArg
		}
	}
	for _, key := range dels {
		if !isKey(key) {
			return api.ErrArg
		}
	}
	for _, x := range sets {
		if len(x.Value) > api.TreeValue {
			return api.ErrLong
		}
	}
	return api.OK
}

func isKey(key string) bool { return len(key) >= 1 && len(key) <= api.TreeKey }

// changesOf is what becomes of each key in the end, by rising keys.
func changesOf(sets []api.Pair, dels []string) []change {
	last := map[string]change{}
	for _, key := range dels {
		last[key] = change{key: key}
	}
	for _, x := range sets {
		last[x.Key] = change{key: x.Key, value: x.Value, set: true}
	}
	var l []change
	for _, key := range slices.Sorted(maps.Keys(last)) {
		l = append(l, last[key])
	}
	return l
}

// news is the changes that change something, and how many pairs more there are behind them: a node that nothing changes keeps its page.
func (t *Tree) news(all []change) (l []change, more int) {
	for _, c := range all {
		value, there := t.Get(c.key)
		if c.set && !there {
			more++
		}
		if !c.set && there {
			more--
		}
		if c.set != there || c.value != value {
			l = append(l, c)
		}
	}
	return l, more
}

// behind is the tree of a root behind changes, as its top node's entry; fresh nodes have no pages yet. The pages that get gives are needed no more.
func behind(get getter, root int, l []change) entry {
	var n node
	if root != 0 {
		n, _ = get(root)
	}
	parts := split(n.level, changed(get, n, l))
	for level := n.level + 1; len(parts) > 1; level++ {
		parts = split(level, parts)
	}
	if len(parts) == 0 {
		return entry{value: wordOf(0)}
	}
	top := parts[0]
	for top.fresh != nil && top.fresh.level > 0 && len(top.fresh.entries) == 1 {
		top = top.fresh.entries[0]
	}
	return top
}

// changed is what stands in a node behind changes, if it had room for all.
func changed(get getter, n node, l []change) []entry {
	if n.level == 0 {
		return merged(n.entries, l)
	}
	var parts []entry
	for i, x := range n.entries {
		mine := l
		if i+1 < len(n.entries) {
			end, _ := find(l, n.entries[i+1].key)
			mine = l[:end]
		}
		l = l[len(mine):]
		if len(mine) == 0 {
			parts = append(parts, x)
			continue
		}
		child := opened(get, n.level-1, x)
		parts = append(parts, split(child.level, changed(get, child, mine))...)
	}
	return mended(get, n.level-1, parts)
}

// merged is a leaf's pairs behind changes.
func merged(pairs []entry, l []change) []entry {
	var out []entry
	for _, c := range l {
		i, found := find(pairs, c.key)
		out = append(out, pairs[:i]...)
		pairs = pairs[i:]
		if found {
			pairs = pairs[1:]
		}
		if c.set {
			out = append(out, entry{key: c.key, value: c.value})
		}
	}
	return append(out, pairs...)
}

// opened is a child, be it fresh or on its page.
func opened(get getter, level int, x entry) node {
	if x.fresh != nil {
		return *x.fresh
	}
	n, ok := below(get, level, x)
	if !ok {
		return node{level: level}
	}
	return n
}

// split is fresh nodes with these entries, none of them thin unless it is the only one.
func split(level int, l []entry) []entry {
	if len(l) == 0 {
		return nil
	}
	if sizeOf(l) > room {
		i := middle(l)
		return append(split(level, l[:i]), split(level, l[i:])...)
	}
	return []entry{{key: l[0].key, value: wordOf(0), fresh: &node{level: level, entries: l}}}
}

// middle is where entries are cut so that both sides are as nearly of one size as can be: the midpoint of the one ahead of the cut lies in the first half of all, that of the one behind it does not.
func middle(l []entry) int {
	total, ahead, i := sizeOf(l), 0, 0
	for 2*ahead+l[i].size() < total {
		ahead += l[i].size()
		i++
	}
	return i
}

// mended is children of one node, of a level, without thin ones, unless there is but one. Only fresh ones can be thin.
func mended(get getter, level int, parts []entry) []entry {
	for len(parts) > 1 {
		i := slices.IndexFunc(parts, func(x entry) bool { return x.fresh != nil && x.fresh.thin() })
		if i < 0 {
			break
		}
		i = max(i-1, 0)
		both := joined(get, level, parts[i], parts[i+1])
		parts = slices.Concat(parts[:i], both, parts[i+2:])
	}
	return parts
}

// joined is what becomes of two neighbours of a level of which one is thin: one node, or two that are not thin. A thin one may have a thin only child, which now has neighbours.
func joined(get getter, level int, a, b entry) []entry {
	l := slices.Concat(opened(get, level, a).entries, opened(get, level, b).entries)
	if level > 0 {
		l = mended(get, level-1, l)
	}
	return split(level, l)
}

func (n *node) thin() bool {
	if n.level > 0 {
		return sizeOf(n.entries) < leastChildren
	}
	return sizeOf(n.entries) < leastPairs
}

// count is how many fresh nodes there are, from this one down.
func (n *node) count() int {
	if n == nil {
		return 0
	}
	all := 1
	for _, x := range n.entries {
		all += x.fresh.count()
	}
	return all
}

// layAll is the fresh nodes on free pages, and the page of the top one.
func layAll(top entry, free []int) ([]api.Page, int) {
	var laid []api.Page
	root := lay(top, func(n node) int {
		page := free[len(laid)]
		laid = append(laid, api.Page{Num: page, Bytes: n.bytes()})
		return page
	})
	return laid, root
}

// lay is the page of a node, to which it comes, if it is fresh, behind those below it.
func lay(x entry, take func(node) int) int {
	if x.fresh == nil {
		return pageOf(x.value)
	}
	n := node{level: x.fresh.level}
	for _, child := range x.fresh.entries {
		if child.fresh != nil {
			child.value = wordOf(lay(child, take))
		}
		n.entries = append(n.entries, child)
	}
	return take(n)
}
