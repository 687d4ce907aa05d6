package text

import (
	"slices"
	"strings"
	"testing"
	"unicode/utf8"

	"souffleur/api"
	"souffleur/width"
)

// The functions whose names begin with "asked" tell what the chapter asks, a second time and by other means: from lists of all bounds, so that a slip in a walk is seen.

func askedPlain(s string) string {
	var plain []byte
	for at := 0; at < len(s); {
		r, n := utf8.DecodeRuneInString(s[at:])
		at += n
		if r == 9 || r == 10 || r == 13 {
			plain = append(plain, 32)
		} else if r >= 0x20 && (r < 0x7f || r > 0x9f) {
			plain = utf8.AppendRune(plain, r)
		}
	}
	return string(plain)
}

func askedBack(s string, n int) int {
	bound := 0
	for _, x := range width.Bounds(s) {
		if x <= n {
			bound = x
		}
	}
	return bound
}

func askedOn(s string, n int) int {
	for _, x := range width.Bounds(s) {
		if x >= n {
			return x
		}
	}
	return len(s)
}

func askedRight(b Buf) bool {
	return b.S == askedPlain(b.S) && len(b.S) <= 600 && slices.Contains(width.Bounds(b.S), b.At)
}

func askedMake(s string, at int) Buf {
	plain := askedPlain(s)
	plain = plain[:askedBack(plain, 600)]
	return Buf{plain, askedBack(plain, at)}
}

func askedInsert(b Buf, s string) (Buf, api.Errno) {
	b, s = askedMake(b.S, b.At), askedPlain(s)
	if len(b.S)+len(s) > 600 {
		return b, 30
	}
	whole := b.S[:b.At] + s + b.S[b.At:]
	return Buf{whole, askedOn(whole, b.At+len(s))}, 0
}

func askedCut(b Buf, from, to int) (Buf, string) {
	b = askedMake(b.S, b.At)
	from, to = askedBack(b.S, from), askedBack(b.S, to)
	if from > to {
		return b, ""
	}
	rest := b.S[:from] + b.S[to:]
	switch {
	case b.At <= from:
		return Buf{rest, askedBack(rest, b.At)}, b.S[from:to]
	case b.At < to:
		return Buf{rest, askedBack(rest, from)}, b.S[from:to]
	}
	return Buf{rest, askedBack(rest, b.At-len(b.S[from:to]))}, b.S[from:to]
}

// place is which of the bounds of a made line its At is.
func place(b Buf) int {
	return slices.Index(width.Bounds(b.S), b.At)
}

func askedPrev(s string, at int) int {
	b := askedMake(s, at)
	return width.Bounds(b.S)[max(0, place(b)-1)]
}

func askedNext(s string, at int) int {
	b := askedMake(s, at)
	bounds := width.Bounds(b.S)
	return bounds[min(len(bounds)-1, place(b)+1)]
}

func askedWord(cluster string) bool {
	const signs = "abcdefghijklmnopqrstuvwxyzABCDEFGHIJKLMNOPQRSTUVWXYZ0123456789_"
	return cluster[0] >= 0x80 || strings.IndexByte(signs, cluster[0]) >= 0
}

func askedWordLeft(s string, at int) int {
	b := askedMake(s, at)
	clusters := width.Cut(b.S)
	k := place(b)
	for k > 0 && !askedWord(clusters[k-1]) {
		k--
	}
	for k > 0 && askedWord(clusters[k-1]) {
		k--
	}
	return width.Bounds(b.S)[k]
}

func askedWordRight(s string, at int) int {
	b := askedMake(s, at)
	clusters := width.Cut(b.S)
	k := place(b)
	for k < len(clusters) && !askedWord(clusters[k]) {
		k++
	}
	for k < len(clusters) && askedWord(clusters[k]) {
		k++
	}
	return width.Bounds(b.S)[k]
}

func askedSwap(b Buf) (Buf, bool) {
	b = askedMake(b.S, b.At)
	clusters := width.Cut(b.S)
	if b.At == 0 || len(clusters) < 2 {
		return b, false
	}
	k := min(place(b), len(clusters)-1)
	behind := width.Bounds(b.S)[k+1]
	clusters[k-1], clusters[k] = clusters[k], clusters[k-1]
	s := strings.Join(clusters, "")
	return Buf{s, askedOn(s, behind)}, true
}

// pieces are what the texts of the tests are made of: words and none, of all widths and many bytes, what Plain changes and leaves out, and bytes that are no sign, or only together.
func pieces() []string {
	return []string{"a", "_", " ", "-", "é", "中", "\u0301", "\u200d", "\t", "\x01", "\u0085", "\xff", "\xcc", "\x81"}
}

// eachText goes through all texts of at most most of some pieces.
func eachText(pieces []string, most int) func(yield func(s string) bool) {
	return func(yield func(s string) bool) {
		var grow func(s string, more int) bool
		grow = func(s string, more int) bool {
			if !yield(s) {
				return false
			}
			for _, x := range pieces {
				if more > 0 && !grow(s+x, more-1) {
					return false
				}
			}
			return true
		}
		grow("", most)
	}
}

// eachPlace goes through all places of a text, and some that are outside of it.
func eachPlace(s string) func(yield func(at int) bool) {
	return func(yield func(at int) bool) {
		// What is no sign has three bytes as plain text, so that places go further than s does.
		for at := -2; at <= 3*len(s)+2; at++ {
			if !yield(at) {
				return
			}
		}
		_ = yield(-1<<63) && yield(1<<63-1)
	}
}

func TestPlain(t *testing.T) {
	for _, x := range []struct{ s, want string }{
		{"", ""}, {"ab c", "ab c"}, {"e\u0301x中", "e\u0301x中"}, {"\u0301", "\u0301"}, {"~\u00a0", "~\u00a0"},
		{"a\tb\nc\rd", "a b c d"}, {"\r\n", "  "}, {"\t\u0301", " \u0301"},
		{"\x00\x01\x08\x0b\x0c\x0e\x1b\x1f\x7f", ""}, {"\u0080\u0085\u009f", ""}, {"a\x1b[Db", "a[Db"},
		{"\xff", "\ufffd"}, {"a\xe4\xb8", "a\ufffd\ufffd"}, {"\x80\x9f", "\ufffd\ufffd"}, {"\xed\xa0\x80", "\ufffd\ufffd\ufffd"}, {"\ufffd", "\ufffd"},
		// bytes are read as signs ahead of what is left out: what a control kept apart stays apart
		{"\xcc\x01\x81", "\ufffd\ufffd"}, {"\xc3\x7f\xa9", "\ufffd\ufffd"},
	} {
		if s := Plain(x.s); s != x.want {
			t.Errorf("P3.1: Plain(%+q) = %+q", x.s, s)
		}
	}
	for r := rune(0); r <= 0x10ffff; r++ {
		if s := string(r) + "x"; Plain(s) != askedPlain(s) {
			t.Fatalf("P3.1: Plain(%+q) = %+q", s, Plain(s))
		}
	}
	if s := strings.Repeat("a", 5000); Plain(s) != s {
		t.Error("P3.1: Plain cuts a long text")
	}
}

func TestRight(t *testing.T) {
	full := strings.Repeat("a", api.MaxText)
	for _, x := range []struct {
		name string
		b    Buf
		want bool
	}{
		{"no text", Buf{}, true}, {"behind no text", Buf{"", 1}, false}, {"ahead of no text", Buf{"", -1}, false},
		{"the beginning", Buf{"ab", 0}, true}, {"between", Buf{"ab", 1}, true}, {"the end", Buf{"ab", 2}, true},
		{"below 0", Buf{"ab", -1}, false}, {"above the length", Buf{"ab", 3}, false},
		{"inside a sign", Buf{"é", 1}, false}, {"inside a cluster", Buf{"e\u0301x", 1}, false}, {"behind a cluster", Buf{"e\u0301x", 3}, true},
		{"begins with width 0", Buf{"\u0301a", 2}, true}, {"inside that", Buf{"\u0301\u0301a", 2}, false},
		{"a tab", Buf{"a\tb", 0}, false}, {"an end of line", Buf{"ab\n", 0}, false}, {"a control", Buf{"\x1b", 0}, false}, {"a control of two bytes", Buf{"\u0085", 0}, false},
		{"no sign", Buf{"a\xff", 0}, false}, {"a sign broken off", Buf{"a\xe4\xb8", 1}, false}, {"U+FFFD itself", Buf{"\ufffd", 3}, true},
		{"just MaxText", Buf{full, api.MaxText}, true}, {"one more", Buf{full + "a", 0}, false}, {"one of three bytes fewer and more", Buf{full[3:] + "中", 600}, true},
		{"far off", Buf{full, 1<<63 - 1}, false}, {"far off below", Buf{full, -1 << 63}, false},
	} {
		if Right(x.b) != x.want {
			t.Errorf("P3.1: %s: Right is %v", x.name, !x.want)
		}
	}
}

func TestMake(t *testing.T) {
	full := strings.Repeat("a", api.MaxText)
	for _, x := range []struct {
		name string
		s    string
		at   int
		want Buf
	}{
		{"no text", "", 0, Buf{}}, {"no text, behind", "", 5, Buf{}}, {"no text, ahead", "", -5, Buf{}},
		{"as it is", "ab", 1, Buf{"ab", 1}}, {"below 0", "ab", -1, Buf{"ab", 0}}, {"above the length", "ab", 7, Buf{"ab", 2}}, {"far off", "ab", 1<<63 - 1, Buf{"ab", 2}}, {"far off below", "ab", -1 << 63, Buf{"ab", 0}},
		{"inside a sign", "a中b", 3, Buf{"a中b", 1}}, {"inside a cluster", "ae\u0301b", 2, Buf{"ae\u0301b", 1}}, {"inside the last cluster", "ae\u0301", 3, Buf{"ae\u0301", 1}},
		{"inside the first cluster, of width 0", "\u0301\u0301a", 3, Buf{"\u0301\u0301a", 0}},
		{"a place of the plain text", "\x01\x01ab", 2, Buf{"ab", 2}}, {"no sign has three bytes", "\xffab", 2, Buf{"\ufffdab", 0}}, {"behind those", "\xffab", 3, Buf{"\ufffdab", 3}},
		{"blanks", "a\tb\r\n", 9, Buf{"a b  ", 5}},
		{"just MaxText", full, 600, Buf{full, 600}}, {"one more", full + "b", 601, Buf{full, 600}}, {"many more", full + full, 900, Buf{full, 600}},
		{"a sign across", full[1:] + "é", 600, Buf{full[1:], 599}}, {"a sign up to", full[2:] + "é", 600, Buf{full[2:] + "é", 600}},
		{"a cluster across", full[2:] + "e\u0301b", 600, Buf{full[2:], 598}}, {"a cluster up to", full[3:] + "e\u0301b", 600, Buf{full[3:] + "e\u0301", 600}},
		{"a mark behind MaxText", full + "\u0301", 600, Buf{full[1:], 599}},
		{"a cluster that is longer", "a" + strings.Repeat("\u0301", 300), 600, Buf{}}, {"of width 0 alone, and longer", strings.Repeat("\u0301", 301), 1, Buf{}},
		{"left out ahead of the cut", strings.Repeat("\x01", 50) + full, 600, Buf{full, 600}}, {"grown ahead of the cut", strings.Repeat("\xff", 201), 700, Buf{strings.Repeat("\ufffd", 200), 600}},
	} {
		if b := Make(x.s, x.at); b != x.want {
			t.Errorf("P3.1: %s: Make tells %+q, %d", x.name, b.S, b.At)
		}
	}
}

func TestMakeAndRightOfAll(t *testing.T) {
	for s := range eachText(pieces(), 4) {
		if Plain(s) != askedPlain(s) || Plain(Plain(s)) != Plain(s) {
			t.Fatalf("P3.1: Plain(%+q) = %+q", s, Plain(s))
		}
		for at := range eachPlace(s) {
			b := Make(s, at)
			if b != askedMake(s, at) || !Right(b) {
				t.Fatalf("P3.1: Make(%+q, %d) = %+q, %d", s, at, b.S, b.At)
			}
			if raw := (Buf{s, at}); Right(raw) != askedRight(raw) || Right(raw) != (raw == b) {
				t.Fatalf("P3.1: Right(%+q, %d) = %v", s, at, Right(raw))
			}
		}
	}
}

// TestAroundMaxText lays clusters of each length across the limit, at each place near it.
func TestAroundMaxText(t *testing.T) {
	for s := range eachText([]string{"b", "é", "中", "\u0301", "\xff", "\x01"}, 2) {
		for n := api.MaxText - 5; n <= api.MaxText+1; n++ {
			long := strings.Repeat("a", n) + s
			for _, at := range []int{n, 599, 600, 700} {
				b := Make(long, at)
				if b != askedMake(long, at) || !Right(b) || Right(Buf{long, at}) != askedRight(Buf{long, at}) {
					t.Fatalf("P3.1: %d times a, and %+q: Make tells %d bytes, at %d", n, s, len(b.S), b.At)
				}
				if Prev(long, at) != askedPrev(long, at) || Next(long, at) != askedNext(long, at) {
					t.Fatalf("P3.1: %d times a, and %+q, at %d: Prev %d, Next %d", n, s, at, Prev(long, at), Next(long, at))
				}
				if WordLeft(long, at) != askedWordLeft(long, at) || WordRight(long, at) != askedWordRight(long, at) {
					t.Fatalf("P3.1: %d times a, and %+q, at %d: WordLeft %d, WordRight %d", n, s, at, WordLeft(long, at), WordRight(long, at))
				}
			}
			b, e := Insert(Buf{long, n}, s)
			if want, asked := askedInsert(Buf{long, n}, s); b != want || e != asked {
				t.Fatalf("P3.2: %d times a, and %+q, twice: Insert tells %d bytes, at %d, error %d", n, s, len(b.S), b.At, e)
			}
			if First(long) != askedMake(long, 0).S[:askedWordRight(long, 0)] {
				t.Fatalf("P3.1: %d times a, and %+q: First has %d bytes", n, s, len(First(long)))
			}
		}
	}
}

func TestInsert(t *testing.T) {
	full := strings.Repeat("a", api.MaxText)
	for _, x := range []struct {
		name string
		b    Buf
		s    string
		want Buf
		e    api.Errno
	}{
		{"the chapter's example", Buf{"ab", 1}, "x", Buf{"axb", 2}, api.OK},
		{"at the beginning", Buf{"ab", 0}, "xy", Buf{"xyab", 2}, api.OK}, {"at the end", Buf{"ab", 2}, "中", Buf{"ab中", 5}, api.OK},
		{"into no text", Buf{}, "ab", Buf{"ab", 2}, api.OK}, {"nothing", Buf{"ab", 1}, "", Buf{"ab", 1}, api.OK}, {"nothing into no text", Buf{}, "", Buf{}, api.OK},
		{"s is taken as plain", Buf{"ab", 1}, "\x1bx\ty\xff", Buf{"ax y\ufffdb", 7}, api.OK}, {"s of controls alone", Buf{"ab", 1}, "\x00\x7f\u0085", Buf{"ab", 1}, api.OK},
		{"b is made", Buf{"a\nb\x01", 9}, "x", Buf{"a bx", 4}, api.OK}, {"inside a cluster", Buf{"ae\u0301b", 3}, "x", Buf{"axe\u0301b", 2}, api.OK}, {"below 0", Buf{"ab", -3}, "x", Buf{"xab", 1}, api.OK},
		{"s begins with width 0", Buf{"ab", 1}, "\u0301x", Buf{"a\u0301xb", 4}, api.OK}, {"s is of width 0", Buf{"ab", 1}, "\u0301", Buf{"a\u0301b", 3}, api.OK}, {"that, at the beginning", Buf{"ab", 0}, "\u0301", Buf{"\u0301ab", 2}, api.OK},
		{"width 0 behind it", Buf{"\u0301b", 0}, "x", Buf{"x\u0301b", 3}, api.OK}, {"that at both", Buf{"\u0301\u0301b", 0}, "\u200d", Buf{"\u200d\u0301\u0301b", 7}, api.OK}, {"that, up to the end", Buf{"\u0301", 0}, "x", Buf{"x\u0301", 3}, api.OK},
		{"up to MaxText", Buf{full[3:], 597}, "中", Buf{full[3:] + "中", 600}, api.OK}, {"one more", Buf{full[2:], 0}, "中", Buf{full[2:], 0}, api.ErrTextLong},
		{"into a full one", Buf{full, 5}, "x", Buf{full, 5}, api.ErrTextLong}, {"nothing into a full one", Buf{full, 5}, "\x01", Buf{full, 5}, api.OK},
		{"MaxText at once", Buf{}, full, Buf{full, 600}, api.OK}, {"one more at once", Buf{}, full + "b", Buf{}, api.ErrTextLong}, {"s counts as plain: less", Buf{}, full + "\x01", Buf{full, 600}, api.OK}, {"s counts as plain: more", Buf{"a", 1}, strings.Repeat("\xff", 200), Buf{"a", 1}, api.ErrTextLong},
		{"with an error the line that b is taken as", Buf{"\te\u0301", 2}, full, Buf{" e\u0301", 1}, api.ErrTextLong}, {"of one that is too long", Buf{full + "b", 700}, "b", Buf{full, 600}, api.ErrTextLong},
	} {
		b, e := Insert(x.b, x.s)
		if b != x.want || e != x.e {
			t.Errorf("P3.2: %s: Insert tells %+q, %d, error %d", x.name, b.S, b.At, e)
		}
	}
}

func TestInsertOfAll(t *testing.T) {
	for text := range eachText(pieces(), 2) {
		for s := range eachText(pieces(), 2) {
			for at := range eachPlace(text) {
				b, e := Insert(Buf{text, at}, s)
				want, asked := askedInsert(Buf{text, at}, s)
				if b != want || e != asked {
					t.Fatalf("P3.2: Insert(%+q, %d, %+q) = %+q, %d, error %d", text, at, s, b.S, b.At, e)
				}
				if !Right(b) {
					t.Fatalf("P3.5: Insert(%+q, %d, %+q) = %+q, %d, which is not right", text, at, s, b.S, b.At)
				}
			}
		}
	}
}

func TestCut(t *testing.T) {
	full := strings.Repeat("a", api.MaxText)
	for _, x := range []struct {
		name     string
		b        Buf
		from, to int
		want     Buf
		gone     string
	}{
		{"At ahead", Buf{"abcdef", 1}, 2, 4, Buf{"abef", 1}, "cd"}, {"At at from", Buf{"abcdef", 2}, 2, 4, Buf{"abef", 2}, "cd"}, {"At between", Buf{"abcdef", 3}, 2, 4, Buf{"abef", 2}, "cd"},
		{"At at to", Buf{"abcdef", 4}, 2, 4, Buf{"abef", 2}, "cd"}, {"At behind", Buf{"abcdef", 5}, 2, 4, Buf{"abef", 3}, "cd"}, {"At at the end", Buf{"abcdef", 6}, 2, 4, Buf{"abef", 4}, "cd"},
		{"from above to", Buf{"abcdef", 3}, 4, 2, Buf{"abcdef", 3}, ""}, {"from is to", Buf{"abcdef", 3}, 3, 3, Buf{"abcdef", 3}, ""},
		{"all", Buf{"abc", 2}, 0, 3, Buf{}, "abc"}, {"all, from outside", Buf{"abc", 2}, -5, 50, Buf{}, "abc"}, {"all, from far off", Buf{"abc", 2}, -1 << 63, 1<<63 - 1, Buf{}, "abc"}, {"far off, from above to", Buf{"abc", 2}, 1<<63 - 1, -1 << 63, Buf{"abc", 2}, ""},
		{"of no text", Buf{}, 0, 9, Buf{}, ""}, {"the beginning", Buf{"abc", 3}, 0, 1, Buf{"bc", 2}, "a"}, {"the end", Buf{"abc", 0}, 2, 3, Buf{"ab", 0}, "c"},
		{"places inside clusters go back", Buf{"ae\u0301中b", 8}, 2, 6, Buf{"a中b", 5}, "e\u0301"}, {"both inside one", Buf{"ae\u0301b", 0}, 2, 3, Buf{"ae\u0301b", 0}, ""},
		{"of width 0, at the beginning", Buf{"\u0301ab", 3}, 0, 2, Buf{"ab", 1}, "\u0301"}, {"behind that", Buf{"\u0301ab", 4}, 2, 3, Buf{"\u0301b", 3}, "a"},
		{"b is made", Buf{"a\tb\x01c", 9}, 1, 2, Buf{"abc", 3}, " "}, {"b is too long", Buf{full + "b", 601}, 599, 700, Buf{full[1:], 599}, "a"},
	} {
		b, gone := Cut(x.b, x.from, x.to)
		if b != x.want || gone != x.gone {
			t.Errorf("P3.2: %s: Cut tells %+q, %d, %+q", x.name, b.S, b.At, gone)
		}
	}
}

func TestCutOfAll(t *testing.T) {
	for s := range eachText([]string{"a", " ", "é", "\u0301", "\n", "\x01", "\xff"}, 3) {
		most := len(askedPlain(s)) + 1
		for at := -1; at <= most; at++ {
			for from := -1; from <= most; from++ {
				for to := -1; to <= most; to++ {
					b, gone := Cut(Buf{s, at}, from, to)
					if want, asked := askedCut(Buf{s, at}, from, to); b != want || gone != asked {
						t.Fatalf("P3.2: Cut(%+q, %d, %d, %d) = %+q, %d, %+q", s, at, from, to, b.S, b.At, gone)
					}
					if !Right(b) || gone != Plain(gone) {
						t.Fatalf("P3.5: Cut(%+q, %d, %d, %d) = %+q, %d, %+q, which is not right", s, at, from, to, b.S, b.At, gone)
					}
				}
			}
		}
	}
}

func TestPrevNext(t *testing.T) {
	for _, x := range []struct {
		s              string
		at, prev, next int
	}{
		{"", 0, 0, 0}, {"", -1, 0, 0}, {"", 1, 0, 0},
		{"abc", 0, 0, 1}, {"abc", 1, 0, 2}, {"abc", 2, 1, 3}, {"abc", 3, 2, 3}, {"abc", 9, 2, 3}, {"abc", -9, 0, 1}, {"abc", 1<<63 - 1, 2, 3}, {"abc", -1 << 63, 0, 1},
		{"ae\u0301中b", 1, 0, 4}, {"ae\u0301中b", 4, 1, 7}, {"ae\u0301中b", 7, 4, 8},
		// inside a cluster is as at its beginning
		{"ae\u0301中b", 2, 0, 4}, {"ae\u0301中b", 3, 0, 4}, {"ae\u0301中b", 6, 1, 7}, {"\u0301\u0301a", 3, 0, 4}, {"\u0301\u0301a", 4, 0, 5},
		{"a\x01\x01b", 1, 0, 2}, {"a\xffb", 1, 0, 4}, {"a\xffb", 4, 1, 5},
	} {
		if Prev(x.s, x.at) != x.prev || Next(x.s, x.at) != x.next {
			t.Errorf("P3.3: %+q, %d: Prev %d, Next %d", x.s, x.at, Prev(x.s, x.at), Next(x.s, x.at))
		}
	}
}

func TestWords(t *testing.T) {
	for _, x := range []struct {
		s               string
		at, left, right int
	}{
		{"", 0, 0, 0}, {"", 5, 0, 0}, {"   ", 1, 0, 3},
		{"git commit -m", 0, 0, 3}, {"git commit -m", 3, 0, 10}, {"git commit -m", 4, 0, 10}, {"git commit -m", 6, 4, 10}, {"git commit -m", 10, 4, 13}, {"git commit -m", 12, 4, 13}, {"git commit -m", 13, 12, 13},
		{"git commit -m", -7, 0, 3}, {"git commit -m", 99, 12, 13},
		{"  ab  ", 0, 0, 4}, {"  ab  ", 3, 2, 4}, {"  ab  ", 4, 2, 6}, {"  ab  ", 6, 2, 6}, {"  ab  ", 1, 0, 4},
		{"a_1-Z", 0, 0, 3}, {"a_1-Z", 5, 4, 5}, {"a_1-Z", 4, 0, 5},
		{"éa 中", 0, 0, 3}, {"éa 中", 7, 4, 7}, {"éa 中", 4, 0, 7},
		// a blank with a mark is no word's, for its first sign is none; a mark at the beginning is one
		{"a \u0301b", 0, 0, 1}, {"a \u0301b", 1, 0, 5}, {"a \u0301b", 4, 0, 5}, {"a \u0301b", 2, 0, 5}, {"\u0301 a", 0, 0, 2}, {"\u0301 a", 3, 0, 4},
		{"a\tb", 0, 0, 1}, {"a\x01b", 0, 0, 2}, {"a\xffb", 0, 0, 5}, {"- e\u0301x", 4, 0, 6},
	} {
		if WordLeft(x.s, x.at) != x.left || WordRight(x.s, x.at) != x.right {
			t.Errorf("P3.3: %+q, %d: WordLeft %d, WordRight %d", x.s, x.at, WordLeft(x.s, x.at), WordRight(x.s, x.at))
		}
	}
}

// TestWordSigns takes each sign between two blanks, where only a word's is passed by itself.
func TestWordSigns(t *testing.T) {
	for r := rune(0x20); r <= 0x10ffff; r++ {
		if width.Control(r) || width.Of(r) == 0 || r >= 0xd800 && r < 0xe000 {
			continue
		}
		s := string(r) + "  "
		want := len(s)
		if askedWord(s) {
			want = len(s) - 2
		}
		if WordRight(s, 0) != want {
			t.Fatalf("P3.3: %x: WordRight %d", r, WordRight(s, 0))
		}
	}
}

func TestFirst(t *testing.T) {
	full := strings.Repeat("a", api.MaxText)
	for _, x := range []struct{ s, want string }{
		{"", ""}, {"git commit", "git"}, {" commit -m", " commit"}, {"  ", "  "}, {"--", "--"}, {"--all x", "--all"}, {"ls", "ls"},
		{"e\u0301 x", "e\u0301"}, {"a \u0301b c", "a"}, {"\u0301 a", "\u0301"}, {"\ta\x01b\n", " ab"}, {"\xffa b", "\ufffda"}, {full + "b", full}, {"\x01", ""},
	} {
		if s := First(x.s); s != x.want {
			t.Errorf("P3.3: First(%+q) = %+q", x.s, s)
		}
	}
}

func TestPlacesOfAll(t *testing.T) {
	for s := range eachText(pieces(), 4) {
		for at := range eachPlace(s) {
			if Prev(s, at) != askedPrev(s, at) || Next(s, at) != askedNext(s, at) {
				t.Fatalf("P3.3: %+q, %d: Prev %d, Next %d", s, at, Prev(s, at), Next(s, at))
			}
			if WordLeft(s, at) != askedWordLeft(s, at) || WordRight(s, at) != askedWordRight(s, at) {
				t.Fatalf("P3.3: %+q, %d: WordLeft %d, WordRight %d", s, at, WordLeft(s, at), WordRight(s, at))
			}
		}
		if First(s) != askedMake(s, 0).S[:askedWordRight(s, 0)] {
			t.Fatalf("P3.3: First(%+q) = %+q", s, First(s))
		}
	}
}

func TestSwap(t *testing.T) {
	full := strings.Repeat("a", api.MaxText-2) + "bc"
	for _, x := range []struct {
		name string
		b    Buf
		want Buf
		is   bool
	}{
		{"no text", Buf{}, Buf{}, false}, {"one cluster", Buf{"a", 1}, Buf{"a", 1}, false}, {"one of many signs", Buf{"e\u0301\u0301", 5}, Buf{"e\u0301\u0301", 5}, false},
		{"at 0", Buf{"ab", 0}, Buf{"ab", 0}, false}, {"below 0", Buf{"ab", -1}, Buf{"ab", 0}, false}, {"inside the first", Buf{"e\u0301b", 1}, Buf{"e\u0301b", 0}, false},
		{"between", Buf{"abcd", 2}, Buf{"acbd", 3}, true}, {"behind the first", Buf{"abcd", 1}, Buf{"bacd", 2}, true}, {"ahead of the last", Buf{"abcd", 3}, Buf{"abdc", 4}, true}, {"at the end", Buf{"abcd", 4}, Buf{"abdc", 4}, true}, {"above the length", Buf{"abcd", 9}, Buf{"abdc", 4}, true},
		{"just two", Buf{"ab", 1}, Buf{"ba", 2}, true}, {"just two, at the end", Buf{"ab", 2}, Buf{"ba", 2}, true},
		{"of other lengths", Buf{"ae\u0301中b", 4}, Buf{"a中e\u0301b", 7}, true}, {"inside a cluster", Buf{"ae\u0301中b", 5}, Buf{"a中e\u0301b", 7}, true},
		{"width 0 at the beginning", Buf{"\u0301ab", 2}, Buf{"a\u0301b", 3}, true}, {"that alone", Buf{"\u0301a", 3}, Buf{"a\u0301", 3}, true},
		{"b is made", Buf{"\ta\x01", 9}, Buf{"a ", 2}, true}, {"b is made, and false", Buf{"a\tb\xff", -1}, Buf{"a b\ufffd", 0}, false}, {"one plain cluster", Buf{"\x01a\x02", 3}, Buf{"a", 1}, false},
		{"a full one", Buf{full + "d", 601}, Buf{full[:api.MaxText-2] + "cb", 600}, true},
	} {
		b, is := Swap(x.b)
		if b != x.want || is != x.is {
			t.Errorf("P3.4: %s: Swap tells %+q, %d, %v", x.name, b.S, b.At, is)
		}
	}
}

func TestSwapOfAll(t *testing.T) {
	for s := range eachText(pieces(), 4) {
		for at := range eachPlace(s) {
			b, is := Swap(Buf{s, at})
			if want, asked := askedSwap(Buf{s, at}); b != want || is != asked {
				t.Fatalf("P3.4: Swap(%+q, %d) = %+q, %d, %v", s, at, b.S, b.At, is)
			}
			if !Right(b) {
				t.Fatalf("P3.5: Swap(%+q, %d) = %+q, %d, which is not right", s, at, b.S, b.At)
			}
		}
	}
}

// seamless says whether no sign of width 0 begins a text, which would join what is ahead of it.
func seamless(s string) bool {
	r, n := utf8.DecodeRuneInString(s)
	return n == 0 || width.Of(r) > 0
}

func TestInsertedThenCut(t *testing.T) {
	checked := 0
	for text := range eachText(pieces(), 3) {
		for s := range eachText([]string{"a", " ", "中", "\u0301", "\n", "\xff"}, 2) {
			for _, at := range width.Bounds(Plain(text)) {
				b := Make(text, at)
				if !seamless(Plain(s)) || !seamless(b.S[b.At:]) {
					continue
				}
				checked++
				with, e := Insert(b, s)
				without, gone := Cut(with, b.At, with.At)
				if e != api.OK || without != b || gone != Plain(s) {
					t.Fatalf("P3.5: %+q into %+q, %d, and cut: %+q, %d, %+q, error %d", s, b.S, b.At, without.S, without.At, gone, e)
				}
			}
		}
	}
	if checked == 0 {
		t.Fatal("P3.5: nothing was inserted")
	}
}

// TestJoinedAtASeam: where a sign of width 0 stands at a seam, more than what was inserted is one cluster with it; the line is right all the same.
func TestJoinedAtASeam(t *testing.T) {
	with, _ := Insert(Buf{"\u0301b", 0}, "x")
	without, gone := Cut(with, 0, with.At)
	if without != (Buf{"b", 0}) || gone != "x\u0301" || !Right(without) {
		t.Errorf("P3.5: %+q, %d, %+q", without.S, without.At, gone)
	}
}

func TestRowsOfCallsStayRight(t *testing.T) {
	steps := []func(b Buf) Buf{
		func(b Buf) Buf { b, _ = Insert(b, "\u0301"); return b },
		func(b Buf) Buf { b, _ = Insert(b, "x \u0301\xff\x01"); return b },
		func(b Buf) Buf { b, _ = Insert(b, strings.Repeat("中e\u0301", 40)); return b },
		func(b Buf) Buf { b, _ = Cut(b, Prev(b.S, b.At), b.At); return b },
		func(b Buf) Buf { b, _ = Cut(b, b.At, WordRight(b.S, b.At)); return b },
		func(b Buf) Buf { b, _ = Swap(b); return b },
		func(b Buf) Buf { return Buf{b.S, WordLeft(b.S, b.At)} },
		func(b Buf) Buf { return Buf{b.S, Prev(b.S, b.At)} },
		func(b Buf) Buf { return Buf{b.S, Next(b.S, b.At)} },
	}
	var follow func(b Buf, row []int)
	follow = func(b Buf, row []int) {
		if !Right(b) {
			t.Fatalf("P3.5: behind the steps %d: %+q, %d", row, b.S, b.At)
		}
		if len(row) == 5 {
			return
		}
		for k, step := range steps {
			follow(step(b), append(slices.Clip(row), k))
		}
	}
	follow(Buf{}, nil)
}

// TestLongArguments: texts that are far longer than a line are taken as what is left of them.
func TestLongArguments(t *testing.T) {
	long := strings.Repeat("ab e\u0301\xff\x01", 1<<14)
	b := Make(long, len(long))
	if !Right(b) || b.S != askedMake(long[:2000], 0).S || b.At != len(b.S) {
		t.Errorf("P3.1: Make of a long text: %+q, %d", b.S, b.At)
	}
	if got, e := Insert(Buf{"ab", 1}, long); got != (Buf{"ab", 1}) || e != api.ErrTextLong {
		t.Errorf("P3.2: Insert of a long text: %+q, %d, error %d", got.S, got.At, e)
	}
	if rest, gone := Cut(Buf{long, 0}, 0, len(long)); rest != (Buf{}) || gone != b.S {
		t.Errorf("P3.2: Cut of a long text: %+q, %+q", rest.S, gone)
	}
}
