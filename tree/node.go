package tree

import (
	"cmp"
	"slices"

	"oxbow/api"
	"oxbow/pages"
)

// Bytes of a page, and of what stands in it.
const (
	room          = api.PageBytes - 1               // behind the level
	pageWord      = 2                               // of a child's page, as a value
	greatestPair  = 2 + api.TreeKey + api.TreeValue // with the lengths
	greatestChild = 2 + api.TreeKey + pageWord      // likewise
	leastPairs    = (room + 1 - greatestPair) / 2   // what split leaves on either side, at least
	leastChildren = (room + 1 - greatestChild) / 2  // more than greatestChild: so a node with one child is thin
)

// node is what stands on a page: a leaf (level 0) has pairs, any other one children of the level below. All leaves stand equally deep. No node is thin but the root.
type node struct {
	level   int
	entries []entry // by rising keys
}

// entry is a pair, or a child by the least key below it; then value is its page.
type entry struct {
	key   string
	value string
	fresh *node // the child, if it has no page yet
}

// getter gives the node that stands on a page; false: none does.
type getter func(page int) (node, bool)

// keyed is what stands somewhere by its key.
type keyed interface{ at() string }

func (x entry) at() string { return x.key }

// find is the place of the first element whose key is not ahead of a key, and whether it has that key.
func find[T keyed](l []T, key string) (int, bool) {
	return slices.BinarySearchFunc(l, key, func(x T, key string) int { return cmp.Compare(x.at(), key) })
}

// reading gives nodes from pages.
func reading(p *pages.Pages) getter {
	return func(page int) (node, bool) {
		bytes, e := p.Get(page)
		if e != api.OK {
			return node{}, false
		}
		return nodeOf(bytes)
	}
}

// meeting gives nodes from pages, and notes the pages that were met.
func meeting(p *pages.Pages, met map[int]struct{}) getter {
	get := reading(p)
	return func(page int) (node, bool) {
		n, ok := get(page)
		if ok {
			met[page] = struct{}{}
		}
		return n, ok
	}
}

// below is a child that has a page; false: it is not what its parent says. That levels fall and least keys stand where they are told bounds every way down, whatever stands on the pages.
func below(get getter, level int, x entry) (node, bool) {
	n, ok := get(pageOf(x.value))
	return n, ok && n.level == level && n.entries[0].key == x.key
}

// walk gives the pairs from a key on, in their order, till give wants no more. It is false, if it came to no end: as give wanted no more, or as something is not as a tree leaves it.
func walk(get getter, root int, from string, give func(entry) bool) bool {
	if root == 0 {
		return true
	}
	last := ""
	var down func(n node) bool
	down = func(n node) bool {
		for _, x := range n.from(from) {
			if n.level > 0 {
				child, ok := below(get, n.level-1, x)
				if !ok || !down(child) {
					return false
				}
				continue
			}
			if x.key <= last || !give(x) {
				return false
			}
			last = x.key
		}
		return true
	}
	n, ok := get(root)
	return ok && down(n)
}

// from is the entries at which keys from a key on are to be found.
func (n node) from(key string) []entry {
	i, found := find(n.entries, key)
	if n.level > 0 && !found && i > 0 {
		i--
	}
	return n.entries[i:]
}

// size is an entry's bytes on a page.
func (x entry) size() int { return 2 + len(x.key) + len(x.value) }

func sizeOf(l []entry) int {
	size := 0
	for _, x := range l {
		size += x.size()
	}
	return size
}

// bytes is how a node stands on its page.
func (n node) bytes() string {
	b := []byte{byte(n.level)}
	for _, x := range n.entries {
		b = append(b, byte(len(x.key)))
		b = append(b, x.key...)
		b = append(b, byte(len(x.value)))
		b = append(b, x.value...)
	}
	return string(b)
}

// nodeOf is the node that stands on a page; false: none does.
func nodeOf(bytes string) (node, bool) {
	if len(bytes) < 2 {
		return node{}, false
	}
	n := node{level: int(bytes[0])}
	last := ""
	for rest := bytes[1:]; rest != ""; {
		var x entry
		var keyed, valued bool
		x.key, rest, keyed = cutOff(rest)
		x.value, rest, valued = cutOff(rest)
		if !keyed || !valued || !n.takes(x) || x.key <= last {
			return node{}, false
		}
		last = x.key
		n.entries = append(n.entries, x)
	}
	return n, true
}

// takes tells whether an entry is as long as one of that level may be.
func (n node) takes(x entry) bool {
	if n.level > 0 {
		return len(x.key) <= api.TreeKey && len(x.value) == pageWord
	}
	return len(x.key) <= api.TreeKey && len(x.value) <= api.TreeValue
}

// cutOff is a text that stands behind its length, and what stands behind it.
func cutOff(bytes string) (string, string, bool) {
	if bytes == "" || len(bytes) < 1+int(bytes[0]) {
		return "", "", false
	}
	end := 1 + int(bytes[0])
	return bytes[1:end], bytes[end:], true
}

// wordOf is a page's number as a child's value, pageOf the number of such a one.
func wordOf(page int) string { return string([]byte{byte(page >> 8), byte(page)}) }

func pageOf(word string) int { return int(word[0])<<8 | int(word[1]) }
