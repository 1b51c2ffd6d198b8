package chunks

import (
	"bytes"
	"cmp"
	"maps"
	"math"
	"slices"

	"oxbow/api"
	"oxbow/digest"
)

// In the tree a chunk stands by its name, and a value as rows of its chunks' names; each key has a first row, be it empty. The tags, ahead of all else in a tree's key, sort so that all rows stand behind the chunks, and the first ones behind the others.
const (
	chunkTag = "c" // behind it: the name
	moreTag  = "m" // behind it: the row's number, from 1 on, and the key
	firstTag = "v" // behind it: the key

	nameBytes = 4
	rowBytes  = api.TreeValue / nameBytes * nameBytes
	mostRows  = 1 + (api.MaxValue-1)/(rowBytes/nameBytes*api.Chunk)
)

// name is a chunk's digest, as bytes.
type name [nameBytes]byte

// chunk is a piece of a value.
type chunk struct{ bytes string }

func (c chunk) name() name { return nameOf(digest.Name(digest.Sum(c.bytes))) }

// nameOf is the name that stands in so many bytes.
func nameOf(s string) name {
	var n name
	copy(n[:], s)
	return n
}

// cut is a text in pieces of a size; the last one may be shorter.
func cut(s string, size int) []string {
	var l []string
	for ; len(s) > size; s = s[size:] {
		l = append(l, s[:size])
	}
	if s != "" {
		l = append(l, s)
	}
	return l
}

func chunksOf(value string) []chunk {
	var l []chunk
	for _, s := range cut(value, api.Chunk) {
		l = append(l, chunk{bytes: s})
	}
	return l
}

// namesOf is the names that stand in a row.
func namesOf(row string) []name {
	var l []name
	for _, s := range cut(row, nameBytes) {
		l = append(l, nameOf(s))
	}
	return l
}

// rising is the names in a map: each time in the same order.
func rising(m map[name]chunk) []name {
	return slices.SortedFunc(maps.Keys(m), func(a, b name) int { return bytes.Compare(a[:], b[:]) })
}

func chunkKey(n name) string { return chunkTag + string(n[:]) }

func chunkKeys(l []name) []string {
	var keys []string
	for _, n := range l {
		keys = append(keys, chunkKey(n))
	}
	return keys
}

// rowKey is where a key's i-th row stands.
func rowKey(key string, i int) string {
	if i == 0 {
		return firstTag + key
	}
	return moreTag + string([]byte{byte(i)}) + key
}

// pairsOf is how values and chunks stand in a tree.
func pairsOf(sets []api.Pair, chunks map[name]chunk) []api.Pair {
	var l []api.Pair
	for _, x := range sets {
		l = append(l, rowsOf(x.Key, x.Value)...)
	}
	for _, n := range rising(chunks) {
		l = append(l, api.Pair{Key: chunkKey(n), Value: chunks[n].bytes})
	}
	return l
}

// rowsOf is a value's rows.
func rowsOf(key, value string) []api.Pair {
	var names []byte
	for _, c := range chunksOf(value) {
		n := c.name()
		names = append(names, n[:]...)
	}
	rows := cut(string(names), rowBytes)
	if len(rows) == 0 {
		rows = []string{""}
	}
	var l []api.Pair
	for i, row := range rows {
		l = append(l, api.Pair{Key: rowKey(key, i), Value: row})
	}
	return l
}

// rows is a key's rows, as they stand in the tree; of no such key there are none.
func (s *Store) rows(key string) []string {
	var l []string
	for i := range mostRows {
		row, there := s.t.Get(rowKey(key, i))
		if !there {
			break
		}
		l = append(l, row)
	}
	return l
}

// rowKeys is where the rows stand of all keys that a Write names.
func (s *Store) rowKeys(sets []api.Pair, dels []string) []string {
	var l []string
	note := func(key string) {
		for i := range s.rows(key) {
			l = append(l, rowKey(key, i))
		}
	}
	for _, x := range sets {
		note(x.Key)
	}
	for _, key := range dels {
		note(key)
	}
	return l
}

func (s *Store) firstRows() []api.Pair { return s.t.Scan(firstTag, math.MaxInt) }

func (s *Store) allRows() []api.Pair { return s.t.Scan(moreTag, math.MaxInt) }

// load takes the chunks from the tree; false: no store left it so. Of a store's tree each pair is one of its chunks, or a row of one of its values.
func (s *Store) load() bool {
	all := s.t.Scan("", math.MaxInt)
	for _, x := range all {
		c := chunk{bytes: x.Value}
		if x.Key == chunkKey(c.name()) && x.Value != "" && len(x.Value) <= api.Chunk {
			s.kept[c.name()] = c
		}
	}
	var values []api.Pair
	for _, key := range s.Keys() {
		value, _ := s.Get(key)
		if !isKey(key) || len(value) > api.MaxValue {
			return false
		}
		values = append(values, api.Pair{Key: key, Value: value})
	}
	again := pairsOf(values, s.kept)
	slices.SortFunc(again, func(a, b api.Pair) int { return cmp.Compare(a.Key, b.Key) })
	return slices.Equal(all, again)
}
