package abbr

import (
	"fmt"
	"iter"
	"math"
	"slices"
	"strings"
	"testing"

	"souffleur/api"
	"souffleur/text"
	"souffleur/width"
)

// What is named "asked" tells what the chapter asks a second time and by other means: a row of pairs, and lines that are put together of their pieces.

type pair struct{ name, to string }

type asked []pair

func (a asked) find(name string) int {
	return slices.IndexFunc(a, func(p pair) bool { return p.name == name })
}

func askedIsName(s string) bool {
	for _, r := range s {
		if r <= 0x20 || r >= 0x7f && r <= 0x9f {
			return false
		}
	}
	return len(s) >= 1 && len(s) <= 20 && strings.ToValidUTF8(s, "") == s
}

func (a *asked) set(name, to string) api.Errno {
	at, plain := a.find(name), text.Plain(to)
	if !askedIsName(name) {
		return 80
	}
	if len(plain) > 100 {
		return 30
	}
	if at < 0 && len(*a) == 16 {
		return 81
	}
	if at < 0 {
		*a = append(*a, pair{name, plain})
	} else {
		(*a)[at].to = plain
	}
	return 0
}

func (a *asked) drop(name string) bool {
	before := len(*a)
	*a = slices.DeleteFunc(*a, func(p pair) bool { return p.name == name })
	return len(*a) < before
}

func (a asked) names() []string {
	var names []string
	for _, p := range a {
		at := 0
		for at < len(names) && strings.Compare(names[at], p.name) < 0 {
			at++
		}
		names = slices.Insert(names, at, p.name)
	}
	return names
}

func (a asked) grow(b text.Buf) (text.Buf, bool) {
	b = text.Make(b.S, b.At)
	from := 0
	for from < b.At && b.S[from] == 0x20 {
		from++
	}
	k := a.find(b.S[from:b.At])
	if k < 0 || b.At < len(b.S) && b.S[b.At] != 0x20 {
		return b, false
	}
	// A name's first sign may stand in the cluster of a blank ahead of it; what is cut begins where that one does.
	for !slices.Contains(width.Bounds(b.S), from) {
		from--
	}
	whole, at := b.S[:from]+a[k].to+b.S[b.At:], from+len(a[k].to)
	if len(whole) > 600 {
		return b, false
	}
	return text.Buf{S: whole, At: at}, whole != b.S || at != b.At
}

// table is a table of some pairs, and the same told a second time.
func table(t *testing.T, pairs ...pair) (*Table, *asked) {
	t.Helper()
	l, a := &Table{}, &asked{}
	for _, p := range pairs {
		if e, want := l.Set(p.name, p.to), a.set(p.name, p.to); e != want || e != api.OK {
			t.Fatalf("P8.1: Set(%+q, %+q) is %d", p.name, p.to, e)
		}
	}
	return l, a
}

// names16 is as many names as a table may have.
func names16() []pair {
	var pairs []pair
	for k := range api.MaxAbbr {
		pairs = append(pairs, pair{fmt.Sprint("n", k), fmt.Sprint("name ", k)})
	}
	return pairs
}

// holds fails where a table is not as it is told, or does not tell just so again; what more names are asked for are in the table, or not.
func holds(t *testing.T, what string, l *Table, a asked, more ...string) {
	t.Helper()
	for range 2 {
		if names := l.Names(); !slices.Equal(names, a.names()) {
			t.Fatalf("P8.1: %s: Names is %+q, not %+q", what, names, a.names())
		}
		for _, p := range a {
			if to, has := l.Get(p.name); to != p.to || !has {
				t.Fatalf("P8.1: %s: Get(%+q) is %+q %v, not %+q", what, p.name, to, has, p.to)
			}
			grows(t, what, l, a, text.Buf{S: p.name, At: len(p.name)})
		}
		for _, name := range more {
			if to, has := l.Get(name); a.find(name) < 0 && (to != "" || has) {
				t.Fatalf("P8.1: %s: Get(%+q), which is no name of it, is %+q %v", what, name, to, has)
			}
			grows(t, what, l, a, text.Buf{S: name, At: len(name)})
		}
	}
}

// grows fails where Grow of a line is not as it is told, or not right, or does not leave what is behind the cursor.
func grows(t *testing.T, what string, l *Table, a asked, b text.Buf) {
	t.Helper()
	grown, is := l.Grow(b)
	if want, asked := a.grow(b); grown != want || is != asked {
		t.Fatalf("P8.2: %s: Grow(%+q, %d) = %+q, %d, %v, not %+q, %d, %v", what, b.S, b.At, grown.S, grown.At, is, want.S, want.At, asked)
	}
	made := text.Make(b.S, b.At)
	if !text.Right(grown) || grown.S[grown.At:] != made.S[made.At:] {
		t.Fatalf("P8.3: %s: Grow(%+q, %d) = %+q, %d: what is behind the cursor is not as it was", what, b.S, b.At, grown.S, grown.At)
	}
	if is != (grown != made) {
		t.Fatalf("P8.2: %s: Grow(%+q, %d) = %+q, %d, and tells %v", what, b.S, b.At, grown.S, grown.At, is)
	}
}

func TestExample(t *testing.T) {
	var l Table
	if e := l.Set("gc", "git commit"); e != api.OK {
		t.Errorf("P8.1: Set is %d", e)
	}
	if b, is := l.Grow(text.Buf{S: "gc", At: 2}); b != (text.Buf{S: "git commit", At: 10}) || !is {
		t.Errorf("P8.2: Grow is %+q, %d, %v", b.S, b.At, is)
	}
}

func TestEmptyTable(t *testing.T) {
	for _, l := range []*Table{{}, new(Table)} {
		holds(t, "a zero table", l, nil, "", " ", "gc", "\xff", strings.Repeat("a", 1000))
		if l.Drop("gc") || l.Drop("") {
			t.Error("P8.1: Drop from a zero table is true")
		}
		holds(t, "a zero table, of which was dropped", l, nil, "gc")
		if e := l.Set("a b", "x"); e != api.ErrAbbrName {
			t.Errorf("P8.1: Set of no name in a zero table is %d", e)
		}
		if e := l.Set("gc", strings.Repeat("x", 101)); e != api.ErrTextLong {
			t.Errorf("P8.1: Set of a long text in a zero table is %d", e)
		}
		holds(t, "a zero table, to which wrong things were set", l, nil, "a b", "gc")
	}
}

func TestNamesThatAre(t *testing.T) {
	for _, x := range []struct {
		what, name string
		is         bool
	}{
		{"no text", "", false}, {"one byte", "g", true}, {"a word", "gc", true}, {"what is no word's", "-_./\\~!", true},
		{"20 bytes", strings.Repeat("a", 20), true}, {"21 bytes", strings.Repeat("a", 21), false}, {"many bytes", strings.Repeat("a", 1<<20), false},
		{"20 bytes of 10 signs", strings.Repeat("é", 10), true}, {"21 bytes of 11 signs", strings.Repeat("é", 10) + "a", false}, {"21 bytes of 7 signs", strings.Repeat("中", 7), false}, {"22 bytes of 11 signs", strings.Repeat("é", 11), false},
		{"20 bytes of one cluster", "ab" + strings.Repeat("\u0301", 9), true},
		{"a blank", " ", false}, {"a blank ahead", " gc", false}, {"a blank within", "g c", false}, {"a blank behind", "gc ", false}, {"a blank with a mark", "g \u0301", false},
		{"a tab", "\t", false}, {"a tab within", "g\tc", false}, {"an end of line", "gc\n", false}, {"a return", "\rgc", false},
		{"a control", "\x01", false}, {"a control within", "g\x1bc", false}, {"7f", "gc\x7f", false}, {"a control of two bytes", "g\u0085c", false}, {"zero", "gc\x00", false},
		{"no sign", "\xff", false}, {"no sign within", "g\xffc", false}, {"a sign broken off", "gc\xe4\xb8", false}, {"a sign written too long", "\xc0\xaf", false}, {"half a pair", "\xed\xa0\x80", false}, {"U+FFFD itself", "\ufffd", true},
		{"width 0 alone", "\u0301", true}, {"width 0 ahead", "\u0301gc", true}, {"two columns", "中", true}, {"four bytes", "😀", true},
		{"a blank that does not break", "a\u00a0b", true}, {"a wide blank", "a\u3000b", true}, {"a line's end of three bytes", "a\u2028b", true},
	} {
		want := api.OK
		if !x.is {
			want = 80
		}
		var l Table
		if e := l.Set(x.name, "to"); e != want {
			t.Errorf("P8.1: %s: Set is %d", x.what, e)
		}
		if to, has := l.Get(x.name); has != x.is || has != (to == "to") {
			t.Errorf("P8.1: %s: Get is %+q %v", x.what, to, has)
		}
		if got := l.Names(); x.is && !slices.Equal(got, []string{x.name}) || !x.is && len(got) > 0 {
			t.Errorf("P8.1: %s: Names is %+q", x.what, got)
		}
		if l.Drop(x.name) != x.is || l.Drop(x.name) || len(l.Names()) > 0 {
			t.Errorf("P8.1: %s: Drop does not tell whether it was a name", x.what)
		}
	}
}

// TestSignsOfNames takes each sign alone, and each byte.
func TestSignsOfNames(t *testing.T) {
	var l Table
	try := func(s string) {
		if is := l.Set(s, "x") == api.OK; is != askedIsName(s) || is != l.Drop(s) {
			t.Fatalf("P8.1: %+q is a name: %v", s, is)
		}
	}
	for r := rune(0); r <= 0x10ffff; r++ {
		try(string(r))
	}
	for x := range 256 {
		try(string([]byte{byte(x)}))
		try(string([]byte{'a', byte(x), 'b'}))
	}
}

func TestTextsOfNames(t *testing.T) {
	full := strings.Repeat("x", 100)
	for _, x := range []struct {
		what, to, plain string
		e               api.Errno
	}{
		{"no text", "", "", 0}, {"a blank", " ", " ", 0}, {"words", " git  commit ", " git  commit ", 0},
		{"100 bytes", full, full, 0}, {"101 bytes", full + "x", "", 30}, {"many bytes", strings.Repeat(full, 1<<13), "", 30},
		{"100 bytes of 50 signs", strings.Repeat("é", 50), strings.Repeat("é", 50), 0}, {"101 bytes of 51 signs", strings.Repeat("é", 50) + "x", "", 30}, {"102 bytes of 34 signs", strings.Repeat("中", 34), "", 30},
		{"101 bytes, one left out", full[:50] + "\x01" + full[:50], full, 0}, {"many left out", strings.Repeat("\x1b", 1000) + full + strings.Repeat("\u0085", 1000), full, 0}, {"all left out", strings.Repeat("\x01", 101), "", 0},
		{"102 bytes, one left out", full + "\x01x", "", 30},
		{"blanks as plain", "a\tb\nc\r", "a b c ", 0}, {"100 of these", strings.Repeat("\n", 100), strings.Repeat(" ", 100), 0}, {"101 of these", strings.Repeat("\t", 101), "", 30},
		{"no sign", "\xff", "\ufffd", 0}, {"99 bytes as plain", strings.Repeat("\xff", 33), strings.Repeat("\ufffd", 33), 0}, {"100 bytes as plain", strings.Repeat("\xff", 33) + "x", strings.Repeat("\ufffd", 33) + "x", 0}, {"34 bytes, but 102 as plain", strings.Repeat("\xff", 34), "", 30},
		{"width 0 ahead", "\u0301x", "\u0301x", 0}, {"a sign broken off", "a\xe4\xb8", "a\ufffd\ufffd", 0},
	} {
		for _, before := range [][]pair{nil, {{"gc", "old"}}, {{"gc", ""}}, {{"ab", "other"}}} {
			l, a := table(t, before...)
			if e, want := l.Set("gc", x.to), a.set("gc", x.to); e != x.e || e != want {
				t.Errorf("P8.1: %s: Set is %d", x.what, e)
			}
			if to, has := l.Get("gc"); x.e == 0 && (to != x.plain || !has) {
				t.Errorf("P8.1: %s: Get is %+q %v", x.what, to, has)
			}
			holds(t, x.what, l, *a, "gc", "ab")
		}
	}
}

// TestWhichError: where several errors apply, the one that is named first comes, and nothing is changed.
func TestWhichError(t *testing.T) {
	long := strings.Repeat("x", 101)
	for _, x := range []struct {
		what     string
		has      int
		name, to string
		e        api.Errno
	}{
		{"no name, a long text", 15, "a b", long, 80},
		{"no name, a full table", 16, "a b", "x", 80},
		{"no name, a long text, a full table", 16, "", long, 80},
		{"a long text, a full table", 16, "new", long, 30},
		{"a long text", 15, "new", long, 30},
		{"a long text for a name that is there", 1, "n0", long, 30},
		{"a long text for a name that is there, a full table", 16, "n0", long, 30},
		{"a full table", 16, "new", "x", 81},
		{"a full table, and no text", 16, "new", "", 81},
		{"a full table that has the name", 16, "n15", "x", 0},
		{"a full table that has the name, and no text", 16, "n0", "", 0},
		{"the last one", 15, "new", "x", 0},
	} {
		l, a := table(t, names16()[:x.has]...)
		for range 2 {
			if e, want := l.Set(x.name, x.to), a.set(x.name, x.to); e != x.e || e != want {
				t.Errorf("P8.1: %s: Set is %d, not %d", x.what, e, x.e)
			}
			holds(t, x.what, l, *a, x.name, "new", "n0", "n15")
		}
	}
}

func TestFullTable(t *testing.T) {
	l, a := table(t, names16()...)
	holds(t, "a full table", l, *a, "n16")
	for _, p := range names16() {
		if l.Set("new", "x") != api.ErrAbbrFull {
			t.Fatal("P8.1: Set in a full table")
		}
		l.Drop("other")
		if l.Set("new", "x") != api.ErrAbbrFull {
			t.Fatal("P8.1: Set in a full table, behind a Drop of no name of it")
		}
		l.Drop(p.name)
		if l.Set("new", "x") != api.OK || l.Set("newer", "x") != api.ErrAbbrFull || l.Set(p.name, p.to) != api.ErrAbbrFull {
			t.Fatal("P8.1: Set behind a Drop from a full table")
		}
		l.Drop("new")
		if l.Set(p.name, p.to) != api.OK {
			t.Fatal("P8.1: Set of a name that was dropped")
		}
	}
	holds(t, "a table that is full again", l, *a, "n16", "new")
}

// TestOrder sets names in many orders: they are told rising, byte by byte.
func TestOrder(t *testing.T) {
	rising := []string{"!", "-", "0", "10", "9", "A", "B", "_", "a", "a!", "aB", "aa", "b", "é", "\ufffd", "😀"}
	for turn := range rising {
		for _, step := range []int{1, 3, 5, 7, 9, 11, 13, 15} {
			var l Table
			for k := range rising {
				l.Set(rising[(turn+k*step)%len(rising)], "x")
			}
			if names := l.Names(); !slices.Equal(names, rising) {
				t.Fatalf("P8.1: Names is %+q, not %+q", names, rising)
			}
		}
	}
}

// TestOwnNames: what Names told is the caller's, and a table knows nothing of another one.
func TestOwnNames(t *testing.T) {
	l, a := table(t, pair{"b", "x"}, pair{"a", "y"}, pair{"c", ""})
	other, b := table(t, pair{"a", "z"})
	names := l.Names()
	names[0] = "q"
	_ = append(names[:1], "r")
	holds(t, "a table, to the names of which was written", l, *a, "q", "r")
	names = l.Names()
	l.Drop("a")
	l.Set("d", "x")
	if !slices.Equal(names, []string{"a", "b", "c"}) {
		t.Errorf("P8.1: what Names told is %q", names)
	}
	holds(t, "a table beside another one", other, *b, "b", "c", "d")
}

func TestGrow(t *testing.T) {
	l, a := table(t,
		pair{"gc", "git commit"}, pair{"g", "git"}, pair{"nil", ""}, pair{"self", "self"}, pair{"two", "gc gc"}, pair{"to", "gc"},
		pair{"pad", "  p "}, pair{"中", "middle"}, pair{"é\u0301", "e"}, pair{"\ufffd", "wrong"}, pair{"m", "\u0301\u0301"}, pair{"mx", "\u0301x"}, pair{"xm", "x\u0301"}, pair{"-", "--all"}, pair{"w", "中\xff\t"}, pair{"\u0301", "mark"},
	)
	for _, x := range []struct {
		what string
		b    text.Buf
		want text.Buf
		is   bool
	}{
		{"no text", text.Buf{}, text.Buf{}, false},
		{"at the end", text.Buf{S: "gc", At: 2}, text.Buf{S: "git commit", At: 10}, true},
		{"ahead of a blank", text.Buf{S: "gc -m x", At: 2}, text.Buf{S: "git commit -m x", At: 10}, true},
		{"ahead of a blank at the end", text.Buf{S: "gc ", At: 2}, text.Buf{S: "git commit ", At: 10}, true},
		{"ahead of blanks", text.Buf{S: "gc   x", At: 2}, text.Buf{S: "git commit   x", At: 10}, true},
		{"ahead of a blank with a mark", text.Buf{S: "gc \u0301x", At: 2}, text.Buf{S: "git commit \u0301x", At: 10}, true},
		{"a blank ahead", text.Buf{S: " gc", At: 3}, text.Buf{S: " git commit", At: 11}, true},
		{"blanks ahead and behind", text.Buf{S: "   gc  gc", At: 5}, text.Buf{S: "   git commit  gc", At: 13}, true},
		{"a shorter name of two that fit", text.Buf{S: "g c", At: 1}, text.Buf{S: "git c", At: 3}, true},
		{"signs of many bytes", text.Buf{S: " 中 中", At: 4}, text.Buf{S: " middle 中", At: 7}, true},
		{"a mark within a name", text.Buf{S: "é\u0301", At: 4}, text.Buf{S: "e", At: 1}, true},
		{"what is no word's", text.Buf{S: "- x", At: 1}, text.Buf{S: "--all x", At: 5}, true},

		{"blanks alone", text.Buf{S: "  ", At: 2}, text.Buf{S: "  ", At: 2}, false},
		{"at 0", text.Buf{S: "gc", At: 0}, text.Buf{S: "gc", At: 0}, false},
		{"at 0, ahead of a blank", text.Buf{S: " gc", At: 0}, text.Buf{S: " gc", At: 0}, false},
		{"ahead of the name, behind a blank", text.Buf{S: " gc", At: 1}, text.Buf{S: " gc", At: 1}, false},
		{"within a name", text.Buf{S: "gc", At: 1}, text.Buf{S: "gc", At: 1}, false},
		{"within a word", text.Buf{S: "gcx", At: 2}, text.Buf{S: "gcx", At: 2}, false},
		{"ahead of another sign", text.Buf{S: "gc-m", At: 2}, text.Buf{S: "gc-m", At: 2}, false},
		{"ahead of a blank that is none", text.Buf{S: "gc\u00a0x", At: 2}, text.Buf{S: "gc\u00a0x", At: 2}, false},
		{"behind another word", text.Buf{S: "git gc", At: 6}, text.Buf{S: "git gc", At: 6}, false},
		{"behind itself", text.Buf{S: "gc gc", At: 5}, text.Buf{S: "gc gc", At: 5}, false},
		{"behind another sign", text.Buf{S: "-gc", At: 3}, text.Buf{S: "-gc", At: 3}, false},
		{"a blank behind the name, and the cursor", text.Buf{S: "gc ", At: 3}, text.Buf{S: "gc ", At: 3}, false},
		{"no name", text.Buf{S: "gd", At: 2}, text.Buf{S: "gd", At: 2}, false},
		{"a longer word", text.Buf{S: "gcc", At: 3}, text.Buf{S: "gcc", At: 3}, false},
		{"great letters", text.Buf{S: "GC", At: 2}, text.Buf{S: "GC", At: 2}, false},
		{"a mark behind the name", text.Buf{S: "gc\u0301", At: 4}, text.Buf{S: "gc\u0301", At: 4}, false},

		{"not plain", text.Buf{S: "\tg\x01c\nx", At: 3}, text.Buf{S: " git commit x", At: 11}, true},
		{"not plain, and no name", text.Buf{S: "g\tc\x01", At: 9}, text.Buf{S: "g c", At: 3}, false},
		{"not plain, at 0", text.Buf{S: "gc\r", At: 0}, text.Buf{S: "gc ", At: 0}, false},
		{"no sign", text.Buf{S: "\xff", At: 3}, text.Buf{S: "wrong", At: 5}, true},
		{"At within no sign", text.Buf{S: "\xff", At: 1}, text.Buf{S: "\ufffd", At: 0}, false},
		{"At above the length", text.Buf{S: "gc", At: 3}, text.Buf{S: "git commit", At: 10}, true},
		{"At far above", text.Buf{S: "gc", At: math.MaxInt}, text.Buf{S: "git commit", At: 10}, true},
		{"At below 0", text.Buf{S: "gc", At: -1}, text.Buf{S: "gc", At: 0}, false},
		{"At far below", text.Buf{S: "gc", At: math.MinInt}, text.Buf{S: "gc", At: 0}, false},
		{"At within a sign behind the name", text.Buf{S: "gc中", At: 3}, text.Buf{S: "gc中", At: 2}, false},
		{"At within a blank's cluster behind the name", text.Buf{S: "gc \u0301", At: 3}, text.Buf{S: "git commit \u0301", At: 10}, true},
		{"At behind what is left out", text.Buf{S: "gc\x01\x02", At: 4}, text.Buf{S: "git commit", At: 10}, true},

		{"a name for nothing", text.Buf{S: "nil", At: 3}, text.Buf{}, true},
		{"a name for nothing, between blanks", text.Buf{S: " nil x", At: 4}, text.Buf{S: "  x", At: 1}, true},
		{"a name for itself", text.Buf{S: "self", At: 4}, text.Buf{S: "self", At: 4}, false},
		{"a name for itself, between blanks", text.Buf{S: " self x", At: 5}, text.Buf{S: " self x", At: 5}, false},
		{"a name for itself, of a line that is not right", text.Buf{S: "\tself", At: 50}, text.Buf{S: " self", At: 5}, false},
		{"a name for another name", text.Buf{S: "to", At: 2}, text.Buf{S: "gc", At: 2}, true},
		{"a name for others", text.Buf{S: "two x", At: 3}, text.Buf{S: "gc gc x", At: 5}, true},
		{"a name for a text with blanks at its ends", text.Buf{S: " pad x", At: 4}, text.Buf{S: "   p  x", At: 5}, true},
		{"a name for what is not plain", text.Buf{S: "w x", At: 1}, text.Buf{S: "中\ufffd  x", At: 7}, true},

		{"width 0 at the line's beginning", text.Buf{S: "mx", At: 2}, text.Buf{S: "\u0301x", At: 3}, true},
		{"width 0 behind a blank", text.Buf{S: " mx x", At: 3}, text.Buf{S: " \u0301x x", At: 4}, true},
		{"width 0 ahead of a blank", text.Buf{S: " xm x", At: 3}, text.Buf{S: " x\u0301 x", At: 4}, true},
		{"width 0 alone", text.Buf{S: " m x", At: 2}, text.Buf{S: " \u0301\u0301 x", At: 5}, true},
		{"a name of width 0", text.Buf{S: "\u0301 x", At: 2}, text.Buf{S: "mark x", At: 4}, true},
		{"a name of width 0 in a blank's cluster, of which a cut can't leave a part", text.Buf{S: "  \u0301 x", At: 4}, text.Buf{S: " mark x", At: 5}, true},
		{"a mark ahead of blanks", text.Buf{S: "\u0301 gc", At: 5}, text.Buf{S: "\u0301 gc", At: 5}, false},
		{"a mark on a blank ahead of the name", text.Buf{S: " \u0301gc", At: 5}, text.Buf{S: " \u0301gc", At: 5}, false},
	} {
		if b, is := l.Grow(x.b); b != x.want || is != x.is {
			t.Errorf("P8.2: %s: Grow(%+q, %d) = %+q, %d, %v, not %+q, %d, %v", x.what, x.b.S, x.b.At, b.S, b.At, is, x.want.S, x.want.At, x.is)
		}
		grows(t, x.what, l, *a, x.b)
	}
	holds(t, "a table, behind Grows", l, *a, "git")
}

func TestNoRoom(t *testing.T) {
	to := "git commit"
	for _, x := range []struct {
		what        string
		ahead, rest int
		is          bool
	}{
		{"just room", 0, 600 - len(to), true}, {"one byte too many", 0, 601 - len(to), false}, {"a full line", 0, 598, false},
		{"just room, at the end", 600 - len(to), 0, true}, {"one byte too many, at the end", 601 - len(to), 0, false}, {"a full line, at the end", 598, 0, false},
		{"just room, in the midst", 300, 300 - len(to), true}, {"one byte too many, in the midst", 300, 301 - len(to), false},
	} {
		ahead, rest := strings.Repeat(" ", x.ahead), strings.Repeat(" ", x.rest)
		b := text.Buf{S: ahead + "gc" + rest, At: x.ahead + 2}
		want := b
		if x.is {
			want = text.Buf{S: ahead + to + rest, At: x.ahead + len(to)}
		}
		l, a := table(t, pair{"gc", to})
		if grown, is := l.Grow(b); grown != want || is != x.is {
			t.Errorf("P8.2: %s: Grow tells %d bytes, at %d, %v", x.what, len(grown.S), grown.At, is)
		}
		holds(t, x.what, l, *a)
		// What takes no more room than the name has room always.
		for _, short := range []string{"", "x", "xy"} {
			l, _ := table(t, pair{"gc", short})
			if grown, is := l.Grow(b); grown.S != ahead+short+rest || grown.At != len(ahead+short) || !is {
				t.Errorf("P8.2: %s: Grow to %q tells %d bytes, at %d, %v", x.what, short, len(grown.S), grown.At, is)
			}
		}
	}
	l, _ := table(t, pair{"gc", to})
	b := text.Buf{S: strings.Repeat("\t", 598) + "gc\x01", At: 1000}
	if grown, is := l.Grow(b); grown != text.Make(b.S, b.At) || is {
		t.Errorf("P8.2: no room in a line that is not right: Grow tells %d bytes, at %d, %v", len(grown.S), grown.At, is)
	}
}

// TestLongLines: a line that is too long is cut first, so that another name may stand at its end.
func TestLongLines(t *testing.T) {
	l, a := table(t, pair{"gc", "x"}, pair{"g", "yy"}, pair{"gcd", "é"}, pair{"ge", "中"}, pair{"nil", ""})
	rest := strings.Repeat("x", 700)
	if b, is := l.Grow(text.Buf{S: "gc " + rest, At: 2}); b != (text.Buf{S: "x " + rest[:597], At: 1}) || !is {
		t.Errorf("P8.2: a line that is too long: Grow tells %d bytes, at %d, %v", len(b.S), b.At, is)
	}
	blanks := strings.Repeat(" ", 700)
	if b, is := l.Grow(text.Buf{S: blanks[:598] + "gcd", At: 700}); b != (text.Buf{S: blanks[:598] + "x", At: 599}) || !is {
		t.Errorf("P8.2: a name that is cut to another one: Grow tells %d bytes, at %d, %v", len(b.S), b.At, is)
	}
	if b, is := l.Grow(text.Buf{S: blanks[:599] + "gcd", At: 599}); b != (text.Buf{S: blanks[:599] + "g", At: 599}) || is {
		t.Errorf("P8.2: ahead of a name that is cut: Grow tells %d bytes, at %d, %v", len(b.S), b.At, is)
	}
	for n := 590; n <= 605; n++ {
		for _, s := range []string{"gcd", "gc ", "ge\u0301", "g中", "g", "gc\xff", "g\x01c", "nil", "nil x"} {
			for _, at := range []int{n, n + 1, n + 2, n + 3, 599, 600, 601, math.MaxInt} {
				grows(t, "near MaxText", l, *a, text.Buf{S: strings.Repeat("\t", n) + s, At: at})
			}
		}
		for _, name := range []string{"gcd ", "g ", "nil ", "gc"} {
			grows(t, "near MaxText", l, *a, text.Buf{S: name + strings.Repeat("é", n/2), At: len(strings.TrimSpace(name))})
		}
	}
	if b, is := l.Grow(text.Buf{S: strings.Repeat("gc e\u0301\xff\x01", 1<<14), At: 2}); !is || len(b.S) > 600 || !strings.HasPrefix(b.S, "x e\u0301\ufffdgc") || b.At != 1 {
		t.Errorf("P8.2: a line of very many bytes: Grow tells %d bytes, at %d, %v", len(b.S), b.At, is)
	}
}

// TestRoomOfAll takes texts of all lengths that a name may stand for, and lines that are nearly full.
func TestRoomOfAll(t *testing.T) {
	for n := range 101 {
		l, a := table(t, pair{"gc", strings.Repeat("x", n)})
		for rest := 598 - 103; rest <= 598; rest++ {
			grows(t, "at the end", l, *a, text.Buf{S: strings.Repeat(" ", rest) + "gc", At: rest + 2})
			grows(t, "at the beginning", l, *a, text.Buf{S: "gc" + strings.Repeat(" ", rest), At: 2})
		}
	}
}

// eachText goes through all texts of at most most of some pieces.
func eachText(pieces []string, most int) iter.Seq[string] {
	return func(yield func(s string) bool) {
		var grow func(s string, more int) bool
		grow = func(s string, more int) bool {
			if !yield(s) {
				return false
			}
			for _, x := range pieces {
				if more > 0 && !grow(s+x, more-1) {
					return false
				}
			}
			return true
		}
		grow("", most)
	}
}

func TestGrowOfAll(t *testing.T) {
	tables := [][]pair{
		nil,
		{{"g", "git"}, {"gc", "git commit"}, {"cg", ""}, {"cc", "cc"}, {"c", "g"}, {"gg", " g "}, {"ggg", "\u0301"}, {"-", "\t-\x01"}},
		{{"g", "\u0301g"}, {"c", "c\u0301"}, {"gc", "中"}, {"\u0301", "x"}, {"\u0301g", "y z"}, {"g\u0301", ""}, {"中", "\u0301\u0301"}, {"中c", "gc"}, {"\ufffd", "\xff\xff"}, {"\u0301\u0301", "\u0301"}, {"-\u0301", "-\u0301"}},
	}
	pieces := []string{"g", "c", "-", " ", "\u0301", "中", "\t", "\x01", "\xff"}
	for _, pairs := range tables {
		l, a := table(t, pairs...)
		grown := 0
		for s := range eachText(pieces, 4) {
			// What is no sign has three bytes as plain text, so that places go further than s does.
			for at := -1; at <= 3*len(s)+1; at++ {
				grows(t, "all texts", l, *a, text.Buf{S: s, At: at})
				if _, is := l.Grow(text.Buf{S: s, At: at}); is {
					grown++
				}
			}
		}
		if (grown > 0) != (len(pairs) > 0) {
			t.Errorf("P8.2: of a table of %d names %d lines grew", len(pairs), grown)
		}
	}
}

// TestDropped: a name that was set, and dropped, grows into nothing, and stands for nothing, till it is set again.
func TestDropped(t *testing.T) {
	lines := []text.Buf{{S: "gc", At: 2}, {S: " gc x", At: 3}, {S: "  gc", At: 9}, {S: "\tgc\n", At: 3}}
	for _, others := range [][]pair{nil, {{"g", "git"}}, {{"gcc", "c"}, {"to", "gc"}, {"c", ""}}, names16()[1:]} {
		for _, to := range []string{"git commit", "", "gc", "g"} {
			l, _ := table(t, append([]pair{{"gc", to}}, others...)...)
			_, without := table(t, others...)
			if !l.Drop("gc") {
				t.Error("P8.1: Drop of a name is false")
			}
			for _, b := range lines {
				if grown, is := l.Grow(b); grown != text.Make(b.S, b.At) || is {
					t.Errorf("P8.3: what was dropped: Grow(%+q, %d) = %+q, %d, %v", b.S, b.At, grown.S, grown.At, is)
				}
			}
			holds(t, "a table, of which a name was dropped", l, *without, "gc")
			if l.Drop("gc") || l.Drop("gc ") || l.Drop("") {
				t.Error("P8.1: Drop of what is no name of it is true")
			}
			holds(t, "a table, of which none was dropped", l, *without, "gc")
			if l.Set("gc", "again") != api.OK {
				t.Error("P8.1: Set of a name that was dropped")
			}
			if grown, is := l.Grow(lines[0]); grown != (text.Buf{S: "again", At: 5}) || !is {
				t.Errorf("P8.3: what was set again: Grow is %+q, %d, %v", grown.S, grown.At, is)
			}
		}
	}
}

// TestSetAgain: a name stands for what it was set to last, and for that alone.
func TestSetAgain(t *testing.T) {
	l, a := table(t, pair{"gc", "one"}, pair{"g", "two"}, pair{"gc", "three\t"}, pair{"gc", ""}, pair{"g", "g"}, pair{"gc", "four"}, pair{"gc", "four"})
	holds(t, "names that were set again", l, *a, "c")
	if to, has := l.Get("gc"); to != "four" || !has || len(l.Names()) != 2 {
		t.Errorf("P8.1: a name that was set again: Get is %q %v, of %q", to, has, l.Names())
	}
}

// TestRows does all rows of a few calls, and looks at the table behind each one.
func TestRows(t *testing.T) {
	long := strings.Repeat("x", 101)
	type call struct{ name, to, kind string }
	calls := []call{{"a", "1", "set"}, {"a", "b", "set"}, {"b", "2\t", "set"}, {"中", "", "set"}, {"a", long, "set"}, {"b\n", "1", "set"}, {"a", "", "drop"}, {"b", "", "drop"}, {"", "", "drop"}}
	play := func(l *Table, a *asked, c call) bool {
		if c.kind == "set" {
			return l.Set(c.name, c.to) == a.set(c.name, c.to)
		}
		return l.Drop(c.name) == a.drop(c.name)
	}
	var follow func(row []call)
	follow = func(row []call) {
		l, a := &Table{}, &asked{}
		for _, c := range row {
			if !play(l, a, c) {
				t.Fatalf("P8.1: behind %+q another answer comes", row)
			}
		}
		holds(t, fmt.Sprintf("%+q", row), l, *a, "a", "b", "中", "", "b\n")
		if len(row) < 5 {
			for _, c := range calls {
				follow(append(slices.Clip(row), c))
			}
		}
	}
	follow(nil)
}

// TestLongRows sets and drops more names than a table may have, for long.
func TestLongRows(t *testing.T) {
	var names []string
	for k := range 24 {
		names = append(names, strings.Repeat(string(rune('a'+k)), 1+k%21))
	}
	l, a := &Table{}, &asked{}
	errors := map[api.Errno]int{}
	chance := uint32(1)
	for range 20000 {
		chance = chance*1664525 + 1013904223
		name, to := names[chance>>8%24], names[chance>>16%24]
		if chance>>28 < 3 {
			if is, want := l.Drop(name), a.drop(name); is != want {
				t.Fatalf("P8.1: Drop(%q) is %v", name, is)
			}
		} else {
			to = strings.Repeat(to, int(chance>>20%8))
			e, want := l.Set(name, to), a.set(name, to)
			if e != want {
				t.Fatalf("P8.1: Set(%q, %q) is %d, not %d", name, to, e, want)
			}
			errors[e]++
		}
		holds(t, "a long row", l, *a, name)
		grows(t, "a long row", l, *a, text.Buf{S: "  " + name + " " + to, At: 2 + len(name)})
	}
	if len(errors) != 4 {
		t.Errorf("P8.1: in a long row only these errors came: %v", errors)
	}
}
