package width

import (
	"slices"
	"strings"
	"testing"
	"unicode/utf8"
)

// ranges are the chapter's ranges of signs of that width, written out a second time, so that a slip in the table is seen.
func ranges(columns int) [][2]rune {
	switch columns {
	case 0:
		return [][2]rune{{0x300, 0x36f}, {0x1ab0, 0x1aff}, {0x1dc0, 0x1dff}, {0x200b, 0x200d}, {0x20d0, 0x20ff}, {0xfe00, 0xfe0f}, {0xfe20, 0xfe2f}}
	case 2:
		return [][2]rune{{0x1100, 0x115f}, {0x2e80, 0x303e}, {0x3041, 0xa4cf}, {0xac00, 0xd7a3}, {0xf900, 0xfaff}, {0xfe30, 0xfe6f}, {0xff01, 0xff60}, {0xffe0, 0xffe6}, {0x1f300, 0x1faff}, {0x20000, 0x3fffd}}
	}
	return nil
}

// widths is the width of each sign that does not take one column.
func widths() map[rune]int {
	of := map[rune]int{}
	for _, columns := range []int{0, 2} {
		for _, x := range ranges(columns) {
			for r := x[0]; r <= x[1]; r++ {
				of[r] = columns
			}
		}
	}
	return of
}

// judge tells what the chapter asks of a text, from where its signs begin, and from the widths above.
type judge struct {
	of map[rune]int
}

func (j judge) width(r rune) int {
	if n, ok := j.of[r]; ok {
		return n
	}
	return 1
}

func (j judge) bounds(s string) []int {
	l := []int{0}
	for at := 0; at < len(s); {
		r, n := utf8.DecodeRuneInString(s[at:])
		if at > 0 && j.width(r) > 0 {
			l = append(l, at)
		}
		at += n
	}
	if s != "" {
		l = append(l, len(s))
	}
	return l
}

func (j judge) cut(s string) []string {
	var l []string
	b := j.bounds(s)
	for k := range len(b) - 1 {
		l = append(l, s[b[k]:b[k+1]])
	}
	return l
}

func (j judge) wide(cluster string) int {
	if cluster == "" {
		return 0
	}
	r, _ := utf8.DecodeRuneInString(cluster)
	return max(1, j.width(r))
}

func (j judge) show(cluster string) string {
	r, n := utf8.DecodeRuneInString(cluster)
	control := n > 0 && (r < 0x20 || r > 0x7e && r < 0xa0)
	if control || j.width(r) == 0 {
		return "\xef\xbf\xbd"
	}
	return string([]rune(cluster))
}

// pieces are what the texts of the tests are made of: signs of all widths, controls, and bytes that are no sign, or only together.
func pieces() []string {
	return []string{"a", "é", "中", "\U0001f600", "\u0301", "\u200d", "\ufe0f", "\u303f", "\ufffd", "\x00", "\x1b", "\x7f", "\u009f", "\xff", "\xcc", "\x81", "\xe2\x80"}
}

// eachText goes through all texts of at most most pieces.
func eachText(most int) func(yield func(s string) bool) {
	return func(yield func(s string) bool) {
		var grow func(s string, more int) bool
		grow = func(s string, more int) bool {
			if !yield(s) {
				return false
			}
			for _, x := range pieces() {
				if more > 0 && !grow(s+x, more-1) {
					return false
				}
			}
			return true
		}
		grow("", most)
	}
}

func TestOfEdges(t *testing.T) {
	for _, columns := range []int{0, 2} {
		for _, x := range ranges(columns) {
			if Of(x[0]) != columns || Of(x[1]) != columns {
				t.Errorf("P2.1: Of(%x) = %d, Of(%x) = %d; not %d", x[0], Of(x[0]), x[1], Of(x[1]), columns)
			}
			// no range touches another of its width
			if Of(x[0]-1) == columns || Of(x[1]+1) == columns {
				t.Errorf("P2.1: Of(%x) = %d, Of(%x) = %d", x[0]-1, Of(x[0]-1), x[1]+1, Of(x[1]+1))
			}
		}
	}
	for _, x := range []struct {
		r    rune
		want int
	}{
		{0, 1}, {0x1b, 1}, {'a', 1}, {0x7f, 1}, {0xe9, 1}, {0x2ff, 1}, {0x370, 1}, {0x10ff, 1}, {0x1160, 1},
		{0x200a, 1}, {0x200e, 1}, {0x303f, 1}, {0x3040, 1}, {0x4e2d, 2}, {0xd7a4, 1}, {0xfe10, 1}, {0xfe1f, 1}, {0xfe70, 1},
		{0xff00, 1}, {0xff61, 1}, {0xfffd, 1}, {0x1f600, 2}, {0x1fb00, 1}, {0x3fffe, 1}, {0x10ffff, 1},
		// what is no sign is in no range
		{-1, 1}, {-0x4e2d, 1}, {0xd800, 1}, {0xdfff, 1}, {0x110000, 1}, {-1 << 31, 1}, {1<<31 - 1, 1},
	} {
		if Of(x.r) != x.want {
			t.Errorf("P2.1: Of(%x) = %d", x.r, Of(x.r))
		}
	}
}

func TestOfAll(t *testing.T) {
	j := judge{widths()}
	for r := rune(-0x100); r <= 0x110100; r++ {
		if Of(r) != j.width(r) {
			t.Fatalf("P2.1: Of(%x) = %d", r, Of(r))
		}
	}
}

func TestControl(t *testing.T) {
	for _, x := range []struct {
		r    rune
		want bool
	}{
		{0, true}, {0x1b, true}, {0x1f, true}, {0x20, false}, {'a', false}, {0x7e, false}, {0x7f, true}, {0x80, true}, {0x9f, true},
		{0xa0, false}, {0x300, false}, {0x4e2d, false}, {0xfffd, false}, {0x10ffff, false},
		// the chapter says "below 20" of any number
		{-1, true}, {-1 << 31, true}, {0x110000, false}, {1<<31 - 1, false},
	} {
		if Control(x.r) != x.want {
			t.Errorf("P2.1: Control(%x) = %v", x.r, !x.want)
		}
	}
	for r := rune(0); r <= 0x110000; r++ {
		if want := r <= 0x1f || r > 0x7e && r < 0xa0; Control(r) != want {
			t.Fatalf("P2.1: Control(%x) = %v", r, !want)
		}
	}
}

func TestCut(t *testing.T) {
	for _, x := range []struct {
		name   string
		s      string
		want   []string
		bounds []int
	}{
		{"no text", "", nil, []int{0}},
		{"the chapter's example", "e\u0301x中", []string{"e\u0301", "x", "中"}, []int{0, 3, 4, 7}},
		{"one sign", "a", []string{"a"}, []int{0, 1}},
		{"begins with width 0", "\u0301a", []string{"\u0301", "a"}, []int{0, 2, 3}},
		{"begins with width 0, twice", "\u0301\u200da", []string{"\u0301\u200d", "a"}, []int{0, 5, 6}},
		{"width 0 alone", "\u200b", []string{"\u200b"}, []int{0, 3}},
		{"many of width 0", "a\u0301\u200d\ufe0fb", []string{"a\u0301\u200d\ufe0f", "b"}, []int{0, 9, 10}},
		{"behind a wide one", "中\u0301中", []string{"中\u0301", "中"}, []int{0, 5, 8}},
		{"joined, but no joiner of two", "\U0001f468\u200d\U0001f469", []string{"\U0001f468\u200d", "\U0001f469"}, []int{0, 7, 11}},
		{"controls", "\x00\n\x1b\u0085", []string{"\x00", "\n", "\x1b", "\u0085"}, []int{0, 1, 2, 3, 5}},
		{"behind a control", "\x1b\u0301a", []string{"\x1b\u0301", "a"}, []int{0, 3, 4}},
		{"bytes that are no sign", "\xff\xfea", []string{"\xff", "\xfe", "a"}, []int{0, 1, 2, 3}},
		{"behind no sign", "\xff\u0301\xe2", []string{"\xff\u0301", "\xe2"}, []int{0, 3, 4}},
		{"a sign that is broken off", "a\xe4\xb8", []string{"a", "\xe4", "\xb8"}, []int{0, 1, 2, 3}},
		{"width 0, broken off", "a\xcc", []string{"a", "\xcc"}, []int{0, 1, 2}},
	} {
		if l := Cut(x.s); !slices.Equal(l, x.want) {
			t.Errorf("P2.1: %s: Cut(%+q) = %+q", x.name, x.s, l)
		}
		if l := Bounds(x.s); !slices.Equal(l, x.bounds) {
			t.Errorf("P2.1: %s: Bounds(%+q) = %d", x.name, x.s, l)
		}
	}
}

func TestShow(t *testing.T) {
	const wrong = "\xef\xbf\xbd"
	for _, x := range []struct {
		cluster string
		wide    int
		show    string
	}{
		{"", 0, ""},
		{"a", 1, "a"}, {" ", 1, " "}, {"~", 1, "~"}, {"\u00a0", 1, "\u00a0"},
		{"e\u0301", 1, "e\u0301"}, {"e\u0301\u200d", 1, "e\u0301\u200d"},
		{"中", 2, "中"}, {"中\u0301", 2, "中\u0301"}, {"\U0001f600\ufe0f", 2, "\U0001f600\ufe0f"}, {"\U00020000", 2, "\U00020000"},
		{"\u0301", 1, wrong}, {"\u0301\u0301", 1, wrong}, {"\u200b", 1, wrong}, {"\ufe2f", 1, wrong},
		{"\x00", 1, wrong}, {"\x1f", 1, wrong}, {"\x7f", 1, wrong}, {"\u0080", 1, wrong}, {"\u009f", 1, wrong}, {"\x1b\u0301", 1, wrong}, {"\n\u200d", 1, wrong},
		{"\xff", 1, wrong}, {"\xe4", 1, wrong}, {wrong, 1, wrong}, {"\xff\u0301", 1, wrong + "\u0301"}, {wrong + "\u0301", 1, wrong + "\u0301"},
		// not one cluster: the first sign decides
		{"ab", 1, "ab"}, {"中a", 2, "中a"}, {"a中", 1, "a中"}, {"\u0301a", 1, wrong}, {"\x01ab", 1, wrong}, {"a\xff", 1, "a" + wrong}, {"a\x01", 1, "a\x01"},
	} {
		if Wide(x.cluster) != x.wide {
			t.Errorf("P2.2: Wide(%+q) = %d", x.cluster, Wide(x.cluster))
		}
		if s := Show(x.cluster); s != x.show {
			t.Errorf("P2.2: Show(%+q) = %+q", x.cluster, s)
		}
	}
}

func TestSum(t *testing.T) {
	for _, x := range []struct {
		s    string
		want int
	}{
		{"", 0}, {"a", 1}, {"abc", 3}, {"e\u0301x中", 4}, {"中中", 4}, {"\u0301", 1}, {"\u0301\u0301", 1}, {"\u0301中\u0301", 3},
		{"a\u200d\ufe0f", 1}, {"\x00\x1b", 2}, {"\xff\xff", 2}, {"\xe4\xb8", 2}, {"\xe4\xb8\xad", 2}, {strings.Repeat("中\u0301", 1000), 2000},
	} {
		if Sum(x.s) != x.want {
			t.Errorf("P2.2: Sum(%+q) = %d, not %d", x.s, Sum(x.s), x.want)
		}
	}
}

// TestAllSigns takes each sign alone, and behind and ahead of others.
func TestAllSigns(t *testing.T) {
	j := judge{widths()}
	for r := rune(0); r <= 0x10ffff; r++ {
		if r == 0xd800 {
			r = 0xe000
		}
		s := string(r)
		if Wide(s) != j.wide(s) || Show(s) != j.show(s) {
			t.Fatalf("P2.2: %x: Wide %d, Show %+q", r, Wide(s), Show(s))
		}
		row := s + "a" + s
		want := []string{s, "a", s}
		if j.width(r) == 0 {
			want = []string{s, "a" + s}
		}
		if l := Cut(row); !slices.Equal(l, want) {
			t.Fatalf("P2.1: Cut(%+q) = %+q", row, l)
		}
	}
}

func TestTexts(t *testing.T) {
	j := judge{widths()}
	for s := range eachText(4) {
		cut, bounds := Cut(s), Bounds(s)
		if !slices.Equal(cut, j.cut(s)) || strings.Join(cut, "") != s {
			t.Fatalf("P2.1: Cut(%+q) = %+q", s, cut)
		}
		if !slices.Equal(bounds, j.bounds(s)) {
			t.Fatalf("P2.1: Bounds(%+q) = %d", s, bounds)
		}
		sum := 0
		for _, cluster := range cut {
			sum += j.wide(cluster)
			if Wide(cluster) != j.wide(cluster) || Show(cluster) != j.show(cluster) {
				t.Fatalf("P2.2: %+q: Wide %d, Show %+q", cluster, Wide(cluster), Show(cluster))
			}
		}
		if Sum(s) != sum {
			t.Fatalf("P2.2: Sum(%+q) = %d, not %d", s, Sum(s), sum)
		}
		// what is no single cluster may be asked of too
		if Wide(s) != j.wide(s) || Show(s) != j.show(s) {
			t.Fatalf("P2.2: %+q: Wide %d, Show %+q", s, Wide(s), Show(s))
		}
	}
}

func TestEach(t *testing.T) {
	for s := range eachText(3) {
		cut, bounds := Cut(s), Bounds(s)
		each := Each(s)
		// more than the clusters there are: nobody tells false
		for most := range len(cut) + 2 {
			k := 0
			each(func(at int, cluster string) bool {
				if k >= len(cut) || k > most || at != bounds[k] || cluster != cut[k] {
					t.Fatalf("P2.3: Each(%+q), told false at %d, goes to %d, %+q", s, most, at, cluster)
				}
				k++
				return k <= most
			})
			if k != min(len(cut), most+1) {
				t.Fatalf("P2.3: Each(%+q), told false at %d, told %d clusters", s, most, k)
			}
		}
	}
}

func TestEachOfNothing(t *testing.T) {
	if Each("") == nil || Each("a") == nil {
		t.Fatal("R7: Each is nil")
	}
	for at, cluster := range Each("") {
		t.Errorf("P2.3: Each of no text tells %d, %+q", at, cluster)
	}
}

// TestEachWithin: two walks over one text, one within the other, do not disturb each other.
func TestEachWithin(t *testing.T) {
	each := Each("e\u0301x中")
	var l []int
	for a := range each {
		for b, cluster := range each {
			l = append(l, a*10+b)
			if cluster == "x" {
				break
			}
		}
	}
	if !slices.Equal(l, []int{0, 3, 30, 33, 40, 43}) {
		t.Errorf("P2.3: %d", l)
	}
}

func TestWhatFollows(t *testing.T) {
	one := func(cluster string) bool { return slices.Equal(Cut(cluster), []string{cluster}) }
	for s := range eachText(4) {
		for _, cluster := range Cut(s) {
			if !one(cluster) {
				t.Fatalf("P2.4: %+q of %+q, cut again, is %+q", cluster, s, Cut(cluster))
			}
			if show := Show(cluster); !one(show) || Wide(show) != Wide(cluster) || Sum(show) != Wide(cluster) {
				t.Fatalf("P2.4: %+q, %d wide, is shown as %+q, %d wide", cluster, Wide(cluster), Cut(show), Wide(show))
			}
		}
	}
}

// TestOwn: what is told is the caller's own (R6).
func TestOwn(t *testing.T) {
	const s = "e\u0301x"
	clear(Cut(s))
	for k := range Bounds(s) {
		Bounds(s)[k] = -1
	}
	if !slices.Equal(Cut(s), []string{"e\u0301", "x"}) || !slices.Equal(Bounds(s), []int{0, 3, 4}) {
		t.Errorf("R6: %+q, %d", Cut(s), Bounds(s))
	}
}
