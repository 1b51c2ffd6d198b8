package delta_test

import (
	"encoding/binary"
	"math/rand"
	"slices"
	"strings"
	"testing"
	"unicode/utf8"

	"oxbow/api"
	"oxbow/delta"
)

// num is the form of a number, by the library.
func num(n int) string { return string(binary.AppendUvarint(nil, uint64(n))) }

func opForm(o api.Op) string {
	if o.Kind == api.OpInsert {
		return num(o.Kind) + num(len(o.Text)) + o.Text
	}
	return num(o.Kind) + num(o.N)
}

// formOf is P9.4's Encode of operations, whether they may be or not.
func formOf(d []api.Op) string {
	s := num(len(d))
	for _, o := range d {
		s += opForm(o)
	}
	return s
}

func noDelta(t *testing.T, s string) {
	t.Helper()
	if d, e := delta.Decode(s); len(d) != 0 || e != api.ErrDeltaForm {
		t.Errorf("P9.4: Decode(%.60q): %s, %d", s, show(d), e)
	}
}

func TestDecode(t *testing.T) {
	for _, c := range []struct {
		s string
		d []api.Op
	}{
		{"\x00", nil},
		{"\x01\x01\x01", ops(keep(1))},
		{"\x01\x01\xe8\x07", ops(keep(1000))},
		{"\x01\x03\xe8\x07", ops(gone(1000))},
		{"\x01\x02\x01x", ops(ins("x"))},
		{"\x01\x02\x01\x00", ops(ins("\x00"))},
		{"\x01\x02\x09é€😀", ops(ins("é€😀"))},
		{"\x02\x02\x01x\x01\x03", ops(ins("x"), keep(3))},
		{"\x03\x03\x01\x02\x01x\x03\x02", ops(gone(1), ins("x"), gone(2))},
		{"\x02\x01\x01\x01\x02", ops(keep(1), keep(2))}, // what is not normal is a delta, too
		{"\x01\x02\xa0\x1f" + strings.Repeat("😀", 1000), ops(ins(strings.Repeat("😀", 1000)))},
		{"\xd0\x0f" + strings.Repeat("\x03\x01\x02\x01x", 1000), times(1000, gone(1), ins("x"))},
	} {
		if d, e := delta.Decode(c.s); !slices.Equal(d, c.d) || e != api.OK {
			t.Errorf("P9.4: Decode(%.60q): %s, %d, want %s", c.s, show(d), e, show(c.d))
		}
		if s, e := delta.Encode(c.d); s != c.s || e != api.OK {
			t.Errorf("P9.4: Encode(%s): %.60q, %d, want %.60q", show(c.d), s, e, c.s)
		}
	}
}

func TestNoDelta(t *testing.T) {
	for _, s := range []string{
		"", "\x01", "\x02", "\x80", "\xff", "\x80\x80\x80\x80\x80\x80\x80\x80\x80\x80\x80",
		"\x01\x01", "\x01\x03", "\x01\x02", "\x01\x02\x02x", "\x02\x01\x01", "\x02\x01\x01\x01", // cut
		"\x00\x00", "\x00\x01\x01", "\x01\x01\x01\x00", "\x01\x01\x01\x01\x01", "\x01\x02\x01xx", "\x01\x02\x01x\x00", // bytes behind the end
		"\x80\x00", "\x81\x00\x01\x01", "\x01\x81\x00\x01", "\x01\x01\x81\x00", "\x01\x01\xe8\x87\x00", "\x01\x82\x00\x01x", "\x01\x02\x81\x00x", "\x01\x83\x00\x01", // not in their one form
		"\x01\x01\x00", "\x01\x03\x00", "\x01\x02\x00", // nothing kept, deleted, put in
		"\x01\x01\xe9\x07", "\x01\x03\xe9\x07", // 1001
		"\x01\x01\x80\x80\x80\x80\x80\x80\x80\x02", "\x01\x01\x80\x80\x80\x80\x80\x80\x80\x01", // 2^50, 2^49
		"\x01\x00\x01", "\x01\x04\x01", "\x01\x04\x01x", "\x01\x05\x01", "\x01\x81\x01\x01", "\x01\x81\x02\x01", "\x01\x81\x80\x80\x80\x10\x01", // a Kind that is none
		"\x01\x00", "\x01\x04",
		"\x01\x02\x01\xff", "\x01\x02\x01\xc3", "\x01\x02\x03\xed\xa0\x80", "\x01\x02\x02a\x80", // not valid
		"\x01\x02\x03é", "\x01\x02\x01é", // cut within a code point, or behind it
		"\x80\x80\x80\x80\x80\x80\x80\x02", "\x80\x80\x80\x80\x80\x80\x80\x02\x01\x01", "\x81\x80\x80\x80\x80\x80\x80\x02", // so many operations there are not
		"2211x13", "é",
	} {
		noDelta(t, s)
	}
	for _, d := range [][]api.Op{ // too long
		ops(keep(1000), ins("x")), ops(keep(1000), keep(1)), ops(keep(1000), gone(1)), ops(gone(1000), gone(1)), ops(ins(strings.Repeat("é", 1001))),
		ops(ins(strings.Repeat("a", 20000))), ops(ins(strings.Repeat("a", 20001))), ops(ins(strings.Repeat("a", 600)), ins(strings.Repeat("a", 401))),
		times(3000, keep(1)), times(3001, keep(1)), times(3000, gone(1)), times(3001, ins("x")), times(5000, gone(1), ins("x")),
	} {
		noDelta(t, formOf(d))
	}
	for _, o := range wrongOps() {
		if o.Kind < 0 || o.N < 0 {
			continue
		}
		if o.Kind == api.OpInsert && o.N == 0 || o.Kind != api.OpInsert && o.Text == "" {
			noDelta(t, formOf(ops(o)))
			noDelta(t, formOf(ops(keep(1), o, ins("b"))))
		}
	}
}

func TestCutAnywhere(t *testing.T) {
	for _, d := range [][]api.Op{nil, ops(keep(1000)), ops(ins("aé€😀"), gone(300), keep(7)), times(200, keep(1), gone(1), ins("€"))} {
		s, _ := delta.Encode(d)
		for i := range len(s) {
			noDelta(t, s[:i])
		}
		for _, more := range []string{"\x00", "\x01", "\x80", "\xff", "\x01\x01", "x", s} {
			noDelta(t, s+more)
		}
	}
}

// TestEveryShortForm goes through all short rows of some bytes: those are deltas that are the form of one, and no others.
func TestEveryShortForm(t *testing.T) {
	const most = 6
	bytes := []byte{0, 1, 2, 3, 4, 0x80, 0xa9, 0xc3}
	var of []api.Op
	for n := 1; n <= 1000; n++ {
		if allOf(num(n), bytes) {
			of = append(of, keep(n), gone(n))
		}
	}
	everyRow(4, bytes, func(row []byte) {
		if len(row) > 0 && utf8.Valid(row) {
			of = append(of, ins(string(row)))
		}
	})
	forms := map[string][]api.Op{}
	everyDelta(2, of, func(d []api.Op) {
		base, target := lengthsOf(d)
		if s := formOf(d); len(s) <= most && base <= 1000 && target <= 1000 && allOf(s, bytes) {
			forms[s] = slices.Clone(d)
		}
	})
	found := 0
	everyRow(most, bytes, func(row []byte) {
		d, e := delta.Decode(string(row))
		want, ok := forms[string(row)]
		if ok && (e != api.OK || !slices.Equal(d, want)) {
			t.Fatalf("P9.4: Decode(%q): %s, %d, want %s", row, show(d), e, show(want))
		}
		if !ok && (e != api.ErrDeltaForm || len(d) != 0) {
			t.Fatalf("P9.4: Decode(%q): %s, %d", row, show(d), e)
		}
		if ok {
			found++
		}
	})
	if found != len(forms) || found < 100 {
		t.Errorf("%d of %d forms were met", found, len(forms))
	}
}

func allOf(s string, bytes []byte) bool {
	for i := range len(s) {
		if !slices.Contains(bytes, s[i]) {
			return false
		}
	}
	return true
}

// everyRow goes through all rows of at most so many of these bytes.
func everyRow(most int, bytes []byte, see func(row []byte)) {
	row := make([]byte, 0, most)
	var deeper func()
	deeper = func() {
		see(row)
		if len(row) == most {
			return
		}
		for _, b := range bytes {
			row = append(row, b)
			deeper()
			row = row[:len(row)-1]
		}
	}
	deeper()
}

// TestFormsWithFaults changes a byte of a form, or takes it out, or puts one in: what is then a delta has that form.
func TestFormsWithFaults(t *testing.T) {
	r := rand.New(rand.NewSource(4))
	for range 20000 {
		d := anyDelta(r, 40)
		d = d[:min(len(d), r.Intn(8))]
		b := []byte(formOf(d))
		at, fresh := r.Intn(len(b)), byte(r.Intn(256))
		switch r.Intn(4) {
		case 0:
			b[at] = fresh
		case 1:
			b = slices.Delete(b, at, at+1)
		case 2:
			b = slices.Insert(b, at, fresh)
		case 3:
			b[at] ^= 1 << r.Intn(8)
		}
		got, e := delta.Decode(string(b))
		if e == api.OK {
			if s, e := delta.Encode(got); s != string(b) || e != api.OK {
				t.Fatalf("P9.4: Decode(%q): %s, of which it is not the Encode", b, show(got))
			}
		} else if e != api.ErrDeltaForm || len(got) != 0 {
			t.Fatalf("P9.4: Decode(%q): %s, %d", b, show(got), e)
		}
	}
}
