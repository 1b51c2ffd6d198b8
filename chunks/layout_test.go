package chunks

import (
	"slices"
	"strings"
	"testing"

	"oxbow/api"
	"oxbow/dev"
	"oxbow/tree"
)

// TestForm: trees that are nearly a store's: none is taken for one.
func TestForm(t *testing.T) {
	x, y := chunk{strings.Repeat("x", api.Chunk)}, chunk{"y"}
	xn, yn := x.name(), y.name()
	names := string(xn[:]) + string(yn[:])
	full := strings.Repeat(string(xn[:]), rowBytes/nameBytes)
	good := []api.Pair{{Key: chunkKey(xn), Value: x.bytes}, {Key: chunkKey(yn), Value: y.bytes}}
	for what, c := range map[string]struct {
		pairs []api.Pair
		e     api.Errno
	}{
		"chunks alone":               {nil, api.OK},
		"a value":                    {[]api.Pair{{Key: "va", Value: names}}, api.OK},
		"a full row":                 {[]api.Pair{{Key: "va", Value: full}}, api.OK},
		"two rows":                   {[]api.Pair{{Key: "va", Value: full}, {Key: "m\x01a", Value: names}}, api.OK},
		"an empty value":             {[]api.Pair{{Key: "va"}}, api.OK},
		"a short chunk in the midst": {[]api.Pair{{Key: "va", Value: string(yn[:]) + string(xn[:])}}, api.ErrChunksForm},
		"a name and a half":          {[]api.Pair{{Key: "va", Value: names[:6]}}, api.ErrChunksForm},
		"a name of no chunk":         {[]api.Pair{{Key: "va", Value: "none"}}, api.ErrChunksForm},
		"a row less than full":       {[]api.Pair{{Key: "va", Value: string(xn[:])}, {Key: "m\x01a", Value: string(yn[:])}}, api.ErrChunksForm},
		"an empty row more":          {[]api.Pair{{Key: "va", Value: full}, {Key: "m\x01a"}}, api.ErrChunksForm},
		"no first row":               {[]api.Pair{{Key: "m\x01a", Value: names}}, api.ErrChunksForm},
		"no second row":              {[]api.Pair{{Key: "va", Value: full}, {Key: "m\x02a", Value: names}}, api.ErrChunksForm},
		"a row 0":                    {[]api.Pair{{Key: "va", Value: full}, {Key: "m\x00a", Value: names}}, api.ErrChunksForm},
		"a key of no bytes":          {[]api.Pair{{Key: "v", Value: names}}, api.ErrChunksForm},
		"a key of 31 bytes":          {[]api.Pair{{Key: "v" + strings.Repeat("k", 31), Value: names}}, api.ErrChunksForm},
		"a chunk of another name":    {[]api.Pair{{Key: "cname", Value: "z"}}, api.ErrChunksForm},
		"an empty chunk":             {[]api.Pair{{Key: chunkKey(chunk{}.name())}}, api.ErrChunksForm},
		"a chunk of 65 bytes":        {[]api.Pair{{Key: chunkKey(chunk{strings.Repeat("z", 65)}.name()), Value: strings.Repeat("z", 65)}}, api.ErrChunksForm},
		"a tag ahead of all":         {[]api.Pair{{Key: "a"}}, api.ErrChunksForm},
		"a tag between":              {[]api.Pair{{Key: "o"}}, api.ErrChunksForm},
		"a tag behind all":           {[]api.Pair{{Key: "z"}}, api.ErrChunksForm},
		"a value that is too long":   {rowsAnd(full, names), api.ErrChunksForm},
	} {
		d, _ := dev.New(400)
		tr, _ := tree.New(d)
		if e := tr.Write(slices.Concat(good, c.pairs), nil); e != api.OK {
			t.Fatalf("%s: %d", what, e)
		}
		if s, e := Open(d); e != c.e || s == nil != (e != api.OK) {
			t.Errorf("C1: %s: %d, want %d", what, e, c.e)
		}
	}
}

// rowsAnd is as many rows as a value may have at most, all of them full: so it is too long; and a value beside it.
func rowsAnd(full, last string) []api.Pair {
	var l []api.Pair
	for i := range mostRows {
		l = append(l, api.Pair{Key: rowKey("a", i), Value: full})
	}
	return append(l, api.Pair{Key: rowKey("b", 0), Value: last})
}

// TestMostRows: the greatest value has so many rows.
func TestMostRows(t *testing.T) {
	l := rowsOf("a", strings.Repeat("x", api.MaxValue))
	if len(l) != mostRows || len(l[mostRows-2].Value) != api.TreeValue || l[mostRows-1].Key != rowKey("a", mostRows-1) {
		t.Errorf("%d rows, not %d", len(l), mostRows)
	}
	if l := rowsOf("a", ""); !slices.Equal(l, []api.Pair{{Key: "va"}}) {
		t.Errorf("rows of the empty value: %q", l)
	}
}

func TestCut(t *testing.T) {
	for s, want := range map[string][]string{"": nil, "a": {"a"}, "abc": {"abc"}, "abcd": {"abc", "d"}, "abcdef": {"abc", "def"}, "abcdefg": {"abc", "def", "g"}} {
		if l := cut(s, 3); !slices.Equal(l, want) {
			t.Errorf("cut(%q): %q", s, l)
		}
	}
}
