package pack_test

import (
	"math"
	"slices"
	"strings"
	"testing"

	"oxbow/api"
	"oxbow/pack"
)

var forms = []struct {
	n    int
	form string
}{
	{0, "\x00"},
	{1, "\x01"},
	{127, "\x7f"},
	{128, "\x80\x01"},
	{129, "\x81\x01"},
	{300, "\xac\x02"},
	{8000, "\xc0\x3e"},
	{1<<14 - 1, "\xff\x7f"},
	{1 << 14, "\x80\x80\x01"},
	{20000, "\xa0\x9c\x01"},
	{1 << 32, "\x80\x80\x80\x80\x10"},
	{1<<49 - 1, "\xff\xff\xff\xff\xff\xff\x7f"},
	{1 << 49, "\x80\x80\x80\x80\x80\x80\x80\x01"},
	{1<<50 - 1, "\xff\xff\xff\xff\xff\xff\xff\x01"},
	{1 << 50, "\x80\x80\x80\x80\x80\x80\x80\x02"},
}

// readers are all four, each told only by its place and its error; clean tells that it answered zero values beside an error.
var readers = map[string]func(s string, at int) (clean bool, behind int, e api.Errno){
	"TakeNum": func(s string, at int) (bool, int, api.Errno) {
		n, behind, e := pack.TakeNum(s, at)
		return n == 0 && behind == 0, behind, e
	},
	"TakeText": func(s string, at int) (bool, int, api.Errno) {
		x, behind, e := pack.TakeText(s, at)
		return x == "" && behind == 0, behind, e
	},
	"TakeList": func(s string, at int) (bool, int, api.Errno) {
		l, behind, e := pack.TakeList(s, at)
		return len(l) == 0 && behind == 0, behind, e
	},
	"TakeWord": func(s string, at int) (bool, int, api.Errno) {
		w, behind, e := pack.TakeWord(s, at)
		return w == 0 && behind == 0, behind, e
	},
}

func refused(t *testing.T, reader string, s string, at int, want api.Errno) {
	t.Helper()
	if clean, _, e := readers[reader](s, at); !clean || e != want {
		t.Errorf("P3: %s(%.40q, %d): %d, want %d; zero values: %v", reader, s, at, e, want, clean)
	}
}

// cutEverywhere holds every beginning of a form against P2.3, with and without something ahead of it.
func cutEverywhere(t *testing.T, reader string, form string) {
	t.Helper()
	for i := range len(form) {
		refused(t, reader, form[:i], 0, api.ErrPackCut)
		refused(t, reader, "\xff\x00"+form[:i], 2, api.ErrPackCut)
	}
}

func mustText(t *testing.T, s string) string {
	t.Helper()
	form, e := pack.Text(s)
	if e != api.OK {
		t.Fatalf("P2: Text of %d bytes: %d", len(s), e)
	}
	return form
}

func mustList(t *testing.T, l []string) string {
	t.Helper()
	form, e := pack.List(l)
	if e != api.OK {
		t.Fatalf("P2: List of %d texts: %d", len(l), e)
	}
	return form
}

// texts are some of each length at which the form of the length changes, and of all bytes.
func texts() []string {
	all := make([]byte, 256)
	for i := range all {
		all[i] = byte(i)
	}
	l := []string{"", "a", "ab", "\x00", "\x80", "\xff\xff", "é€😀", string(all)}
	for _, n := range []int{127, 128, 16383, 16384, 19999, 20000} {
		l = append(l, strings.Repeat("x", n))
	}
	return l
}

func lists() [][]string {
	long := make([]string, 8000)
	for i := range long {
		long[i] = strings.Repeat("y", i%3)
	}
	return [][]string{nil, {}, {""}, {"a", ""}, {"", "", ""}, {"\x00", "\xff", "é"}, texts(), make([]string, 127), make([]string, 128), long}
}

var words = []uint32{0, 1, 127, 128, 255, 256, 65535, 65536, 1<<24 - 1, 1 << 24, 0x01020384, 1<<31 - 1, 1 << 31, 0xff000001, math.MaxUint32}

func TestNum(t *testing.T) {
	for _, c := range forms {
		if s, e := pack.Num(c.n); s != c.form || e != api.OK {
			t.Errorf("P1: Num(%d) = %q, %d", c.n, s, e)
		}
	}
	for _, n := range []int{-1, -128, math.MinInt, 1<<50 + 1, 1 << 51, math.MaxInt} {
		if s, e := pack.Num(n); s != "" || e != api.ErrPackNum {
			t.Errorf("P1: Num(%d) = %q, %d", n, s, e)
		}
	}
}

func TestText(t *testing.T) {
	for s, want := range map[string]string{"": "\x00", "ab": "\x02ab", "é": "\x02\xc3\xa9", "\xff": "\x01\xff"} {
		if form, e := pack.Text(s); form != want || e != api.OK {
			t.Errorf("P2: Text(%q) = %q, %d", s, form, e)
		}
	}
	long := strings.Repeat("x", 20000)
	if form, e := pack.Text(long); form != "\xa0\x9c\x01"+long || e != api.OK {
		t.Errorf("P2: Text of 20000 bytes: %d bytes, %d", len(form), e)
	}
	if form, e := pack.Text(long + "x"); form != "" || e != api.ErrLong {
		t.Errorf("P2: Text of 20001 bytes: %d bytes, %d", len(form), e)
	}
}

func TestList(t *testing.T) {
	for _, c := range []struct {
		l    []string
		want string
	}{
		{nil, "\x00"},
		{[]string{}, "\x00"},
		{[]string{""}, "\x01\x00"},
		{[]string{"a", ""}, "\x02\x01a\x00"},
		{[]string{"ab", "\x80"}, "\x02\x02ab\x01\x80"},
		{make([]string, 8000), "\xc0\x3e" + strings.Repeat("\x00", 8000)},
	} {
		if form, e := pack.List(c.l); form != c.want || e != api.OK {
			t.Errorf("P2: List of %d texts: %.40q, %d", len(c.l), form, e)
		}
	}
	long := strings.Repeat("x", 20000)
	if form, e := pack.List([]string{long, long}); form != "\x02\xa0\x9c\x01"+long+"\xa0\x9c\x01"+long || e != api.OK {
		t.Errorf("P2: List of texts of 20000 bytes: %d bytes, %d", len(form), e)
	}
	many := make([]string, 8001)
	for _, l := range [][]string{many, {long + "x"}, {"", long + "x"}, {long + "x", ""}} {
		if form, e := pack.List(l); form != "" || e != api.ErrLong {
			t.Errorf("P2: List of %d texts: %d bytes, %d", len(l), len(form), e)
		}
	}
}

func TestWord(t *testing.T) {
	for w, want := range map[uint32]string{0: "\x00\x00\x00\x00", 1: "\x00\x00\x00\x01", 0x01020384: "\x01\x02\x03\x84", math.MaxUint32: "\xff\xff\xff\xff"} {
		if form := pack.Word(w); form != want {
			t.Errorf("P2: Word(%d) = %q", w, form)
		}
	}
}

func TestPlaces(t *testing.T) {
	for name := range readers {
		for _, s := range []string{"", "\x00", "\x01a", "\x00\x00\x00\x00"} {
			for _, at := range []int{-1, -len(s) - 1, math.MinInt, len(s) + 1, len(s) + 4, math.MaxInt} {
				refused(t, name, s, at, api.ErrArg)
			}
			refused(t, name, s, len(s), api.ErrPackCut)
		}
	}
}

func TestExamplesOfTaking(t *testing.T) {
	for at, want := range map[int][2]int{0: {300, 2}, 1: {2, 2}} {
		if n, behind, e := pack.TakeNum("\xac\x02", at); n != want[0] || behind != want[1] || e != api.OK {
			t.Errorf("P3: TakeNum of ac 02 at %d = %d, %d, %d", at, n, behind, e)
		}
	}
	refused(t, "TakeNum", "\xac\x02", 2, api.ErrPackCut)
	refused(t, "TakeNum", "\xac\x02", 3, api.ErrArg)
	refused(t, "TakeNum", "\x80\x00", 0, api.ErrPackForm)
	refused(t, "TakeNum", strings.Repeat("\x80", 9), 0, api.ErrPackForm)
	refused(t, "TakeText", "\x03ab", 0, api.ErrPackCut)
	refused(t, "TakeText", "\xa1\x9c\x01", 0, api.ErrPackForm)
}

// TestNumbersOfNoForm: what is wrong with a number is wrong with the number of a text and of a list, and with that of a text in a list.
func TestNumbersOfNoForm(t *testing.T) {
	seven := strings.Repeat("\x80", 7)
	for s, want := range map[string]api.Errno{
		"":                                 api.ErrPackCut,
		"\x80":                             api.ErrPackCut,
		"\x80\x00":                         api.ErrPackForm,
		"\xff\x00":                         api.ErrPackForm,
		"\x80\x80\x00":                     api.ErrPackForm,
		"\x81\x80":                         api.ErrPackCut,
		seven:                              api.ErrPackCut, // seven groups are no number yet
		seven + "\x00":                     api.ErrPackForm,
		seven + "\x03":                     api.ErrPackForm,
		seven + "\x7f":                     api.ErrPackForm,
		seven + "\x80":                     api.ErrPackForm, // the eighth byte, at once
		seven + "\xff":                     api.ErrPackForm,
		seven + "\x82\x00":                 api.ErrPackForm,
		seven + "\x80\x80\x80":             api.ErrPackForm,
		"\x81\x80\x80\x80\x80\x80\x80\x02": api.ErrPackForm, // 2^50 + 1
		strings.Repeat("\xff", 7):          api.ErrPackCut,
		strings.Repeat("\xff", 20):         api.ErrPackForm,
	} {
		for _, name := range []string{"TakeNum", "TakeText", "TakeList"} {
			refused(t, name, s, 0, want)
			refused(t, name, "abc"+s, 3, want)
		}
		refused(t, "TakeList", "\x01"+s, 0, want)
		refused(t, "TakeList", "\x02\x01a"+s, 0, want)
	}
}

func TestNumbersOfTextsAndLists(t *testing.T) {
	refused(t, "TakeText", "\xa1\x9c\x01"+strings.Repeat("x", 20001), 0, api.ErrPackForm) // 20001
	refused(t, "TakeText", "\xa1\x9c", 0, api.ErrPackCut)                                 // not known yet
	refused(t, "TakeText", "\xa0\x9c\x01"+strings.Repeat("x", 19999), 0, api.ErrPackCut)
	refused(t, "TakeText", "\x80\x80\x80\x80\x80\x80\x80\x02", 0, api.ErrPackForm) // a number, but no text's
	refused(t, "TakeList", "\xc1\x3e"+strings.Repeat("\x00", 8001), 0, api.ErrPackForm)
	refused(t, "TakeList", "\xc1\x3e", 0, api.ErrPackForm) // 8001
	refused(t, "TakeList", "\xc1", 0, api.ErrPackCut)
	refused(t, "TakeList", "\xc0\x3e"+strings.Repeat("\x00", 7999), 0, api.ErrPackCut)
	refused(t, "TakeList", "\x80\x80\x80\x80\x80\x80\x80\x02", 0, api.ErrPackForm)
	refused(t, "TakeList", "\x01\xa1\x9c\x01", 0, api.ErrPackForm)
}

// TestFirstMet: of several faults of a list the one that stands ahead is told.
func TestFirstMet(t *testing.T) {
	refused(t, "TakeList", "\x03\x01a\x80\x00", 0, api.ErrPackForm) // the second text's number is wrong, the third one is missing
	refused(t, "TakeList", "\x02\x05a\x80\x00", 0, api.ErrPackCut)  // the first text takes in what would be wrong
	refused(t, "TakeList", "\x03\x01a\x80", 0, api.ErrPackCut)
	if l, behind, e := pack.TakeList("\x01\x01a\x80\x00", 0); !slices.Equal(l, []string{"a"}) || behind != 3 || e != api.OK {
		t.Errorf("P3: %q, %d, %d", l, behind, e) // what stands behind the form is not looked at
	}
}

func TestTakeWord(t *testing.T) {
	if w, behind, e := pack.TakeWord("\x00\xff\x00\x00\x01\x02", 1); w != 0xff000001 || behind != 5 || e != api.OK {
		t.Errorf("P3: %x, %d, %d", w, behind, e)
	}
	for i := range 4 {
		refused(t, "TakeWord", "abcdef", 6-i, api.ErrPackCut)
	}
}

// around puts a form between others, which must not matter to who reads it.
func around(form string, try func(s string, at int, behind int)) {
	for _, ahead := range []string{"", "\x00", "\x80", "\xff\xff\x03ab"} {
		for _, behind := range []string{"", "\x00", "\x80", "\xff\x01"} {
			try(ahead+form+behind, len(ahead), len(ahead)+len(form))
		}
	}
}

func TestBackNum(t *testing.T) {
	for _, c := range forms {
		around(c.form, func(s string, at int, want int) {
			if n, behind, e := pack.TakeNum(s, at); n != c.n || behind != want || e != api.OK {
				t.Errorf("P2.1: TakeNum(%q, %d) = %d, %d, %d", s, at, n, behind, e)
			}
		})
		cutEverywhere(t, "TakeNum", c.form)
	}
	for n := range 1 << 16 {
		form, _ := pack.Num(n)
		if k, behind, e := pack.TakeNum(form, 0); k != n || behind != len(form) || e != api.OK {
			t.Fatalf("P2.1: %d: %d, %d, %d", n, k, behind, e)
		}
	}
}

func TestBackText(t *testing.T) {
	for _, x := range texts() {
		form := mustText(t, x)
		around(form, func(s string, at int, want int) {
			if y, behind, e := pack.TakeText(s, at); y != x || behind != want || e != api.OK {
				t.Errorf("P2.1: TakeText of %d bytes = %d bytes, %d, %d", len(x), len(y), behind, e)
			}
		})
		cutEverywhere(t, "TakeText", form)
	}
}

func TestBackList(t *testing.T) {
	for _, l := range lists() {
		form := mustList(t, l)
		around(form, func(s string, at int, want int) {
			if k, behind, e := pack.TakeList(s, at); !slices.Equal(k, l) || behind != want || e != api.OK {
				t.Errorf("P2.1: TakeList of %d texts = %d texts, %d, %d", len(l), len(k), behind, e)
			}
		})
	}
	cutEverywhere(t, "TakeList", mustList(t, []string{"a", "", strings.Repeat("x", 300), "\x80"}))
	cutEverywhere(t, "TakeList", mustList(t, make([]string, 300)))
	cutEverywhere(t, "TakeList", mustList(t, nil))
}

func TestBackWord(t *testing.T) {
	for _, w := range words {
		around(pack.Word(w), func(s string, at int, want int) {
			if k, behind, e := pack.TakeWord(s, at); k != w || behind != want || e != api.OK {
				t.Errorf("P2.1: TakeWord(%q, %d) = %d, %d, %d", s, at, k, behind, e)
			}
		})
		cutEverywhere(t, "TakeWord", pack.Word(w))
	}
}

// rewritten tells what a reader took, written again.
func rewritten(name string, s string, at int) (string, api.Errno) {
	switch name {
	case "TakeNum":
		n, _, _ := pack.TakeNum(s, at)
		return pack.Num(n)
	case "TakeText":
		x, _, _ := pack.TakeText(s, at)
		return pack.Text(x)
	case "TakeList":
		l, _, _ := pack.TakeList(s, at)
		return pack.List(l)
	}
	w, _, _ := pack.TakeWord(s, at)
	return pack.Word(w), api.OK
}

// TestOneForm reads, at each place, rows of bytes that nobody wrote as forms.
func TestOneForm(t *testing.T) {
	bytes := []string{"", "\x00", "\x01", "\x02", "\x03", "\x7f", "\x80", "\x81", "\xff"}
	for _, a := range bytes {
		for _, b := range bytes {
			for _, c := range bytes {
				for _, d := range bytes {
					for _, f := range bytes {
						oneForm(t, a+b+c+d+f)
					}
				}
			}
		}
	}
	oneForm(t, "\x80\x80\x80\x80\x80\x80\x80\x02\xff\xff\xff\xff\xff\xff\xff\x01\x00")
}

func oneForm(t *testing.T, s string) {
	t.Helper()
	for name, take := range readers {
		for at := range len(s) + 1 {
			_, behind, e := take(s, at)
			if e != api.OK {
				continue
			}
			if behind <= at || behind > len(s) {
				t.Fatalf("P3: %s(%q, %d): the place behind it is %d", name, s, at, behind)
			}
			if form, e := rewritten(name, s, at); form != s[at:behind] || e != api.OK {
				t.Fatalf("P2.2: %s(%q, %d), written again: %q, %d", name, s, at, form, e)
			}
		}
	}
}

func TestInOrder(t *testing.T) {
	for i, a := range words {
		for j, b := range words {
			if want := i < j; (pack.Word(a) < pack.Word(b)) != want {
				t.Errorf("P2.4: %d and %d: %q, %q", a, b, pack.Word(a), pack.Word(b))
			}
		}
	}
}

func TestNested(t *testing.T) {
	inner := [][]string{{"a", ""}, nil, {"\x80", "é"}, make([]string, 200)}
	var outer []string
	for _, l := range inner {
		outer = append(outer, mustList(t, l))
	}
	deep := mustList(t, []string{mustList(t, outer), "\x00"})
	top, behind, e := pack.TakeList(deep, 0)
	if len(top) != 2 || top[1] != "\x00" || behind != len(deep) || e != api.OK {
		t.Fatalf("P2.5: %d texts, %d, %d", len(top), behind, e)
	}
	mid, _, e := pack.TakeList(top[0], 0)
	if !slices.Equal(mid, outer) || e != api.OK {
		t.Fatalf("P2.5: %q, %d", mid, e)
	}
	for i, s := range mid {
		if l, behind, e := pack.TakeList(s, 0); !slices.Equal(l, inner[i]) || behind != len(s) || e != api.OK {
			t.Errorf("P2.5: %q, %d, %d", l, behind, e)
		}
	}
}

func TestOneBehindTheOther(t *testing.T) {
	num, _ := pack.Num(300)
	s := num + mustText(t, "ab") + mustList(t, []string{"", "c"}) + pack.Word(7) + num
	n, at, e1 := pack.TakeNum(s, 0)
	x, at, e2 := pack.TakeText(s, at)
	l, at, e3 := pack.TakeList(s, at)
	w, at, e4 := pack.TakeWord(s, at)
	m, at, e5 := pack.TakeNum(s, at)
	if n != 300 || x != "ab" || !slices.Equal(l, []string{"", "c"}) || w != 7 || m != 300 || at != len(s) {
		t.Errorf("P2.5: %d, %q, %q, %d, %d, %d", n, x, l, w, m, at)
	}
	for _, e := range []api.Errno{e1, e2, e3, e4, e5} {
		if e != api.OK {
			t.Errorf("P2.5: %d", e)
		}
	}
}

func TestNothingIsShared(t *testing.T) {
	in := []string{"a", "b"}
	form := mustList(t, in)
	if !slices.Equal(in, []string{"a", "b"}) {
		t.Errorf("R5: %q", in)
	}
	in[0] = "z"
	a, _, _ := pack.TakeList(form, 0)
	b, _, _ := pack.TakeList(form, 0)
	for i := range a[:cap(a)] {
		a[:cap(a)][i] = "y"
	}
	if !slices.Equal(b, []string{"a", "b"}) {
		t.Errorf("R5: %q", b)
	}
}
