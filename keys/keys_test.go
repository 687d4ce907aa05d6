package keys

import (
	"regexp"
	"slices"
	"strings"
	"testing"
	"unicode/utf8"

	"souffleur/api"
	"souffleur/text"
)

// What is named "asked" tells what the chapter asks a second time and by other means: all bytes wait, however many, and patterns look at them from the first one on.

// wide is bytes as a text with one sign each, so that a pattern sees bytes.
func wide(b []byte) string {
	signs := make([]rune, 0, len(b))
	for _, x := range b {
		signs = append(signs, rune(x))
	}
	return string(signs)
}

var (
	askedPaste    = regexp.MustCompile(`^\x1b\[200~((?s:.)*?)\x1b\[201~`)
	askedPasting  = regexp.MustCompile(`^\x1b\[200~`)
	askedSequence = regexp.MustCompile(`^\x1b(\[[ -?]*|O)([^ -?]|$)`)
	askedLetters  = regexp.MustCompile(`^\x1bO([ -?])`)
	askedKinds    = map[string]int{
		"\x1b[A": Up, "\x1b[B": Down, "\x1b[C": Right, "\x1b[D": Left, "\x1b[H": Home, "\x1b[F": End,
		"\x1bOA": Up, "\x1bOB": Down, "\x1bOC": Right, "\x1bOD": Left, "\x1bOH": Home, "\x1bOF": End,
		"\x1b[1;3C": WordRight, "\x1b[1;5C": WordRight, "\x1b[1;3D": WordLeft, "\x1b[1;5D": WordLeft,
		"\x1b[1~": Home, "\x1b[7~": Home, "\x1b[4~": End, "\x1b[8~": End, "\x1b[3~": Delete,
		"\x1bb": WordLeft, "\x1bf": WordRight, "\x1bd": KillWord, "\x1by": Pop, "\x1b\x7f": KillBack,
		"\x01": Home, "\x02": Left, "\x04": Delete, "\x05": End, "\x06": Right, "\x07": Cancel, "\x08": Backspace, "\x09": Accept,
		"\x0a": Enter, "\x0d": Enter, "\x0b": KillEnd, "\x0c": Redraw, "\x0e": Down, "\x10": Up, "\x12": Search, "\x14": Swap,
		"\x15": KillStart, "\x17": KillBack, "\x18": Redo, "\x19": Yank, "\x1f": Undo, "\x7f": Backspace,
	}
)

// askedSign is the key of the sign that b begins with, which need not be whole.
func askedSign(b []byte) (Key, int) {
	r, n := utf8.DecodeRune(b)
	if r < 0x20 || r >= 0x7f && r <= 0x9f {
		return Key{}, n
	}
	return Key{Sign, string(r)}, n
}

func askedEscaped(b []byte) (Key, int) {
	s := wide(b)
	if m := askedPaste.FindStringSubmatch(s); m != nil {
		body := b[6 : 6+utf8.RuneCountInString(m[1])]
		return Key{Paste, text.Plain(string(body[:min(len(body), 1200)]))}, len(body) + 12
	}
	if askedPasting.MatchString(s) {
		return Key{}, 0
	}
	if m := askedSequence.FindStringSubmatch(s); m != nil {
		n := 1 + len(m[1])
		switch {
		case m[2] == "":
			return Key{}, 0
		case m[2] < "\x40" || m[2] > "\x7e":
			return Key{}, n
		}
		return Key{Kind: askedKinds[string(b[:n+1])]}, n + 1
	}
	switch {
	case askedLetters.MatchString(s):
		return Key{}, 2
	case len(b) == 1:
		return Key{}, 0
	case b[1] < 0x20 || b[1] > 0x7f:
		return Key{Kind: Escape}, 1
	}
	return Key{Kind: askedKinds[string(b[:2])]}, 2
}

type asked struct {
	waits []byte
	ticks int
}

func (d *asked) put(x byte) (made []Key) {
	d.ticks = 0
	d.waits = append(d.waits, x)
	for len(d.waits) > 0 {
		b := d.waits
		var key Key
		n := 0
		switch {
		case b[0] == 0x1b:
			key, n = askedEscaped(b)
		case b[0] < 0x20 || b[0] == 0x7f:
			key, n = Key{Kind: askedKinds[string(b[:1])]}, 1
		case utf8.FullRune(b):
			key, n = askedSign(b)
		}
		if n == 0 {
			break
		}
		made = append(made, key)
		d.waits = slices.Clone(b[n:])
	}
	return made
}

func (d *asked) pasting() bool {
	return askedPasting.MatchString(wide(d.waits))
}

func (d *asked) tick() (made []Key) {
	d.ticks++
	if len(d.waits) == 0 || d.pasting() || d.ticks < 2 {
		return nil
	}
	b := d.waits
	d.waits = nil
	switch {
	case string(b) == "\x1b":
		return []Key{{Kind: Escape}}
	case b[0] == 0x1b:
		return []Key{{}}
	}
	for len(b) > 0 {
		key, n := askedSign(b)
		made = append(made, key)
		b = b[n:]
	}
	return made
}

// of is keys of these kinds, without texts.
func of(kinds ...int) []Key {
	var l []Key
	for _, kind := range kinds {
		l = append(l, Key{Kind: kind})
	}
	return l
}

// typed is the keys of all signs of a text.
func typed(s string) []Key {
	var l []Key
	for _, r := range s {
		l = append(l, Key{Sign, string(r)})
	}
	return l
}

func pasted(s string) []Key {
	return []Key{{Paste, s}}
}

func join(rows ...[]Key) []Key {
	return slices.Concat(rows...)
}

func TestKinds(t *testing.T) {
	for k, kind := range []int{Ignored, Sign, Enter, Backspace, Delete, Left, Right, Home, End, WordLeft, WordRight, KillEnd, KillStart, KillBack, KillWord, Yank, Pop, Undo, Redo, Up, Down, Search, Cancel, Accept, Swap, Redraw, Paste, Escape} {
		if kind != k {
			t.Errorf("P4.1: the kind %d is counted as %d", k, kind)
		}
	}
}

func TestRowsOfTheChapter(t *testing.T) {
	for s, kind := range askedKinds {
		var d Decoder
		for k := range len(s) - 1 {
			if l := d.Put(s[k]); len(l) > 0 || !d.Waits() {
				t.Fatalf("P4.1: %q: byte %d alone makes %v", s, k, l)
			}
		}
		if l := d.Put(s[len(s)-1]); !slices.Equal(l, of(kind)) || d.Waits() || d.Pasting() {
			t.Errorf("P4.1: %q: %v, not %d", s, l, kind)
		}
	}
}

// TestFirstBytes takes all bytes, each as the first one: the chapter has a rule for each.
func TestFirstBytes(t *testing.T) {
	for x := range 0x100 {
		var d Decoder
		l := d.Put(byte(x))
		want := []Key{{}}
		switch kind, is := askedKinds[string([]byte{byte(x)})]; {
		case is:
			want = of(kind)
		case x == 0x1b || x >= 0xc2 && x <= 0xf4:
			want = nil
		case x >= 0x20 && x < 0x7f:
			want = typed(string(rune(x)))
		case x >= 0x80:
			want = typed("\ufffd")
		}
		if !slices.Equal(l, want) || d.Waits() != (want == nil) || d.Pasting() {
			t.Errorf("P4.1: Put(%x) = %v, Waits %v", x, l, d.Waits())
		}
	}
}

// TestBehindEscape takes all bytes behind 1b, and behind what begins a sequence.
func TestBehindEscape(t *testing.T) {
	for x := range 0x100 {
		last := byte(x)
		alone := new(Decoder).Put(last)
		letter := []Key{{Kind: askedKinds["\x1b["+string(rune(x))]}}
		for _, y := range []struct {
			begin string
			waits bool
			ends  bool
			ended []Key
			broke int
		}{
			{"\x1b", last == '[' || last == 'O', last >= 0x20 && last < 0x80, of(askedKinds["\x1b"+string(rune(x))]), Escape},
			{"\x1b[", last >= 0x20 && last < 0x40, last >= 0x40 && last < 0x7f, letter, Ignored},
			{"\x1bO", false, last >= 0x40 && last < 0x7f, letter, Ignored},
			{"\x1b[9;9", last >= 0x20 && last < 0x40, last >= 0x40 && last < 0x7f, of(Ignored), Ignored},
		} {
			var d Decoder
			before := d.Feed([]byte(y.begin))
			l := d.Put(last)
			want := join(of(y.broke), alone)
			if y.ends {
				want = y.ended
			}
			if y.waits {
				want = nil
			}
			wantWaits := y.waits || !y.ends && (last == 0x1b || last >= 0xc2 && last <= 0xf4)
			if len(before) > 0 || !slices.Equal(l, want) || d.Waits() != wantWaits {
				t.Errorf("P4.1: %q, then %x: %v, not %v; Waits %v", y.begin, x, l, want, d.Waits())
			}
		}
	}
}

func TestFeed(t *testing.T) {
	between := func(n int) string { return strings.Repeat("1", n) }
	for _, x := range []struct {
		name  string
		b     string
		want  []Key
		waits bool
	}{
		{"the chapter's example", "a\x1b[D\x1bb", join(typed("a"), of(Left, WordLeft)), false},
		{"nothing", "", nil, false}, {"1b alone", "\x1b", nil, true}, {"1b, and a control", "\x1b\x0d", of(Escape, Enter), false}, {"1b, and 1b", "\x1b\x1b", of(Escape), true}, {"twice 1b, and a letter", "\x1b\x1bb", of(Escape, WordLeft), false},
		{"1b, and a sequence behind", "\x1b\x1b[A", of(Escape, Up), false}, {"1b, and a sign of two bytes", "\x1b\xc3\xa9", join(of(Escape), typed("é")), false}, {"1b, and no sign", "\x1b\xff", join(of(Escape), typed("\ufffd")), false}, {"1b, and 80", "\x1b\x80", join(of(Escape), typed("\ufffd")), false},
		{"1b, and a blank", "\x1b x", join(of(Ignored), typed("x")), false}, {"1b, and 7e", "\x1b~", of(Ignored), false}, {"1b, and 1f", "\x1b\x1f", of(Escape, Undo), false},
		{"1b, and B", "\x1bB", of(Ignored), false}, {"1b, and what is a sequence's", "\x1b]A", join(of(Ignored), typed("A")), false},
		{"CSI with nothing", "\x1b[", nil, true}, {"CSI with a last one that is no key's", "\x1b[E\x1b[@\x1b[~\x1b[Z", of(Ignored, Ignored, Ignored, Ignored), false}, {"CSI, [ again", "\x1b[[A", join(of(Ignored), typed("A")), false},
		{"CSI with 16 between", "\x1b[" + between(16) + "A", of(Ignored), false}, {"CSI with 17 between", "\x1b[" + between(17) + "A", of(Ignored), false}, {"CSI with 18 between", "\x1b[" + between(18) + "~x", join(of(Ignored), typed("x")), false}, {"CSI with 1000 between", "\x1b[" + between(1000) + "Cx", join(of(Ignored), typed("x")), false},
		{"that waits: 16", "\x1b[" + between(16), nil, true}, {"that waits: 17", "\x1b[" + between(17), nil, true}, {"that waits: 1000", "\x1b[" + between(1000), nil, true},
		{"a key behind 17 others", "\x1b[" + between(17) + "3~", of(Ignored), false}, {"a paste behind 17 others", "\x1b[" + between(17) + "200~", of(Ignored), false},
		{"17 between, broken off", "\x1b[" + between(17) + "\x0d", of(Ignored, Enter), false}, {"17 between, broken off by 1b", "\x1b[" + between(17) + "\x1b[A", of(Ignored, Up), false}, {"1000 between, broken off", "\x1b[" + between(1000) + "\x7f", of(Ignored, Backspace), false}, {"17 between, broken off by a sign", "\x1b[" + between(17) + "\xc3\xa9", join(of(Ignored), typed("é")), false},
		{"CSI, broken off below 20", "\x1b[\x0d", of(Ignored, Enter), false}, {"CSI, broken off by 0", "\x1b[1;\x00", of(Ignored, Ignored), false}, {"CSI, broken off by 7f", "\x1b[1\x7fA", join(of(Ignored, Backspace), typed("A")), false}, {"CSI, broken off by 80", "\x1b[1\x80", join(of(Ignored), typed("\ufffd")), false}, {"CSI, broken off by a sign", "\x1b[\xe4\xb8\xadA", join(of(Ignored), typed("中A")), false},
		{"CSI, broken off by 1b", "\x1b[1;5\x1b[1;5C", of(Ignored, WordRight), false}, {"CSI, broken off by a paste", "\x1b[\x1b[200~a\x1b[201~", join(of(Ignored), pasted("a")), false},
		{"what is nearly a key's", "\x1b[1A\x1b[1;3A\x1b[1;4C\x1b[;5C\x1b[1;5H\x1b[5C\x1b[1;5~\x1b[0~\x1b[2~\x1b[5~\x1b[6~\x1b[9~\x1b[33~\x1b[3 ~\x1b[03~\x1b[3A", of(make([]int, 16)...), false},
		{"what is nearly a paste", "\x1b[20~\x1b[2000~\x1b[0200~\x1b[200;~\x1b[201~\x1b[200A", of(make([]int, 6)...), false}, {"that is broken off", "\x1b[200\x1b[200\x0d", of(Ignored, Ignored, Enter), false},
		{"SS3 with nothing", "\x1bO", nil, true}, {"SS3 with another letter", "\x1bOE\x1bO~\x1bO@", of(Ignored, Ignored, Ignored), false}, {"SS3, broken off by a blank", "\x1bO A", join(of(Ignored), typed(" A")), false}, {"SS3, broken off by a digit", "\x1bO1", join(of(Ignored), typed("1")), false}, {"SS3, broken off by 3f", "\x1bO?", join(of(Ignored), typed("?")), false},
		{"SS3, broken off by a control", "\x1bO\x0d", of(Ignored, Enter), false}, {"SS3, broken off by 7f", "\x1bO\x7f", of(Ignored, Backspace), false}, {"SS3, broken off by 1b", "\x1bO\x1bOA", of(Ignored, Up), false}, {"SS3, broken off by a sign", "\x1bO\xc3\xa9", join(of(Ignored), typed("é")), false},
		{"signs", "aé中😀", typed("aé中😀"), false}, {"a sign of width 0", "e\u0301", typed("e\u0301"), false}, {"U+FFFD itself", "\ufffd", typed("\ufffd"), false},
		{"bytes that are no sign", "\xff\x80\xc0\xf5", typed("\ufffd\ufffd\ufffd\ufffd"), false}, {"broken off by a letter", "\xc3A", typed("\ufffdA"), false}, {"broken off by a control", "\xe4\xb8\x0d", join(typed("\ufffd\ufffd"), of(Enter)), false}, {"broken off by 1b", "\xf0\x9f\x98\x1b[A", join(typed("\ufffd\ufffd\ufffd"), of(Up)), false}, {"broken off by 7f", "\xc3\x7f", join(typed("\ufffd"), of(Backspace)), false},
		{"broken off by another sign", "\xe4\xb8\xc3\xa9", typed("\ufffd\ufffdé"), false}, {"half of a pair", "\xed\xa0\x80", typed("\ufffd\ufffd\ufffd"), false}, {"that waits: two bytes", "\xe4\xb8", nil, true}, {"that waits: three bytes", "\xf0\x9f\x98", nil, true},
		{"controls of two bytes", "\u0080\u0085\u009b\u009f", of(Ignored, Ignored, Ignored, Ignored), false}, {"what is behind these", "\u00a0", typed("\u00a0"), false}, {"9b is no CSI", "\u009bA", join(of(Ignored), typed("A")), false},
		{"controls of no key", "\x00\x03\x0f\x11\x13\x16\x1a\x1c\x1d\x1e", of(make([]int, 10)...), false},
	} {
		var d Decoder
		if l := d.Feed([]byte(x.b)); !slices.Equal(l, x.want) || d.Waits() != x.waits || d.Pasting() {
			t.Errorf("P4.1: %s: Feed(%+q) = %v, not %v; Waits %v", x.name, x.b, l, x.want, d.Waits())
		}
	}
}

func TestPaste(t *testing.T) {
	const begin, end = "\x1b[200~", "\x1b[201~"
	most := strings.Repeat("a", 2*api.MaxText)
	for _, x := range []struct{ name, body, want string }{
		{"no bytes", "", ""}, {"a text", "git commit", "git commit"}, {"signs of many bytes", "é中e\u0301😀", "é中e\u0301😀"}, {"what is not plain", "a\tb\r\nc\x01\x7f\u0085\xff", "a b  c\ufffd"},
		{"keys", "\x1b[A\x1bb\x0d", "[Ab "}, {"a second beginning", begin + "a", "[200~a"}, {"1b alone", "\x1b", ""}, {"twice", "\x1b\x1b", ""}, {"controls alone", "\x00\x01", ""},
		{"just 2 MaxText", most, most}, {"one more", most + "b", most}, {"one less", most[1:], most[1:]}, {"far more", strings.Repeat("ab", 1<<16), strings.Repeat("ab", api.MaxText)},
		{"a sign that just has room", most[2:] + "é", most[2:] + "é"}, {"a sign that is broken off", most[1:] + "é", most[1:] + "\ufffd"}, {"bytes count, not plain ones", strings.Repeat("\x01", 1200) + "a", ""}, {"those that become more", strings.Repeat("\xff", 1201), strings.Repeat("\ufffd", 1200)},
		{"a beginning of the end", "a\x1b[201b", "a[201b"}, {"two beginnings", "\x1b[20\x1b[201", "[20[201"}, {"1b ahead of the end", "a\x1b[201\x1b", "a[201"}, {"all beginnings", "\x1b\x1b[\x1b[2\x1b[20\x1b[201\x1b[201\x7f~", "[[2[20[201[201~"}, {"the end without 1b", "[201~", "[201~"},
		{"a beginning at 2 MaxText", most[3:] + "\x1b[20x", most[3:] + "[2"}, {"a beginning behind that", most + "\x1b[201x", most}, {"a beginning up to that", most[5:] + "\x1b[201x", most[5:] + "[201"},
	} {
		var d Decoder
		if l := d.Feed([]byte(begin)); len(l) > 0 || !d.Waits() || !d.Pasting() {
			t.Fatalf("P4.1: %s: a paste's beginning: %v, Waits %v, Pasting %v", x.name, l, d.Waits(), d.Pasting())
		}
		for k, y := range []byte(x.body + end[:5]) {
			if l := d.Put(y); len(l) > 0 || !d.Waits() || !d.Pasting() {
				t.Fatalf("P4.1: %s: at byte %d: %v, Waits %v, Pasting %v", x.name, k, l, d.Waits(), d.Pasting())
			}
		}
		if l := d.Put('~'); !slices.Equal(l, pasted(x.want)) || d.Waits() || d.Pasting() {
			t.Errorf("P4.1: %s: %v, not %v", x.name, l, x.want)
		}
		if l := d.Feed([]byte("a" + begin + "b" + end + end + "c")); !slices.Equal(l, join(typed("a"), pasted("b"), of(Ignored), typed("c"))) {
			t.Errorf("P4.1: %s: behind it: %v", x.name, l)
		}
	}
}

func TestPastingBegins(t *testing.T) {
	var d Decoder
	for k, x := range []byte("\x1b[200~") {
		if d.Pasting() {
			t.Fatalf("P4.1: a paste has begun at byte %d", k)
		}
		d.Put(x)
	}
	if !d.Pasting() {
		t.Error("P4.1: a paste has not begun")
	}
}

func TestTick(t *testing.T) {
	for _, x := range []struct {
		name string
		b    string
		want []Key
	}{
		{"1b", "\x1b", of(Escape)}, {"the second one", "\x1b\x1b", of(Escape)},
		{"CSI", "\x1b[", of(Ignored)}, {"CSI, and a digit", "\x1b[3", of(Ignored)}, {"CSI, and 17 bytes", "\x1b[12345678901234567", of(Ignored)}, {"CSI, and 1000 bytes", "\x1b[" + strings.Repeat(" ", 1000), of(Ignored)}, {"nearly a paste", "\x1b[200", of(Ignored)}, {"SS3", "\x1bO", of(Ignored)},
		{"one of two bytes", "\xc3", typed("\ufffd")}, {"two of three", "\xe4\xb8", typed("\ufffd\ufffd")}, {"three of four", "\xf0\x9f\x98", typed("\ufffd\ufffd\ufffd")}, {"a control's first byte", "\xc2", typed("\ufffd")},
	} {
		var d Decoder
		d.Feed([]byte(x.b))
		if l := d.Tick(); len(l) > 0 || !d.Waits() {
			t.Errorf("P4.2: %s: the first Tick: %v", x.name, l)
		}
		if l := d.Feed(nil); len(l) > 0 {
			t.Errorf("P4.2: %s: no bytes: %v", x.name, l)
		}
		if l := d.Tick(); !slices.Equal(l, x.want) || d.Waits() || d.Pasting() {
			t.Errorf("P4.2: %s: the second Tick: %v", x.name, l)
		}
		if l := d.Tick(); len(l) > 0 || d.Waits() {
			t.Errorf("P4.2: %s: the third Tick: %v", x.name, l)
		}
		if l := d.Feed([]byte("[A")); !slices.Equal(l, typed("[A")) {
			t.Errorf("P4.2: %s: behind the Ticks: %v", x.name, l)
		}
	}
}

func TestTicksOfNothing(t *testing.T) {
	var d Decoder
	for range 3 {
		if l := d.Tick(); len(l) > 0 || d.Waits() || d.Pasting() {
			t.Fatalf("P4.2: a Tick of a zero decoder: %v", l)
		}
	}
	// ticks ahead of a byte do not count
	d.Put(0x1b)
	if l := d.Tick(); len(l) > 0 || !d.Waits() {
		t.Errorf("P4.2: the first Tick: %v", l)
	}
}

func TestAByteBetweenTicks(t *testing.T) {
	var d Decoder
	for k, x := range []byte("\x1b[1;5") {
		d.Put(x)
		if l := d.Tick(); len(l) > 0 || !d.Waits() {
			t.Fatalf("P4.2: a first Tick, behind byte %d: %v", k, l)
		}
	}
	if l := d.Put('C'); !slices.Equal(l, of(WordRight)) {
		t.Errorf("P4.2: a Tick behind each byte: %v", l)
	}
	// also one that makes a key, and leaves another byte that waits
	d.Put(0x1b)
	d.Tick()
	if l := d.Put(0x1b); !slices.Equal(l, of(Escape)) {
		t.Errorf("P4.2: 1b, and 1b: %v", l)
	}
	if l := d.Tick(); len(l) > 0 || !d.Waits() {
		t.Errorf("P4.2: the first Tick since: %v", l)
	}
	if l := d.Tick(); !slices.Equal(l, of(Escape)) || d.Waits() {
		t.Errorf("P4.2: the second Tick since: %v", l)
	}
}

func TestTicksInAPaste(t *testing.T) {
	var d Decoder
	for k, x := range []byte("\x1b[200~a\xc3\x1b[201") {
		if l := d.Put(x); len(l) > 0 {
			t.Fatalf("P4.2: byte %d makes %v", k, l)
		}
		if k < 5 {
			continue
		}
		for range 3 {
			if l := d.Tick(); len(l) > 0 || !d.Waits() || !d.Pasting() {
				t.Fatalf("P4.2: a Tick in a paste, behind byte %d: %v", k, l)
			}
		}
	}
	if l := d.Put('~'); !slices.Equal(l, pasted("a\ufffd")) || d.Waits() {
		t.Errorf("P4.2: a paste with Ticks within: %v", l)
	}
}

const tick = -1

// eachRow goes through all rows of at most most steps: bytes, or ticks.
func eachRow(few []int, most int) func(yield func(row []int) bool) {
	return func(yield func(row []int) bool) {
		var grow func(row []int) bool
		grow = func(row []int) bool {
			if !yield(row) {
				return false
			}
			for _, x := range few {
				if len(row) < most && !grow(append(row[:len(row):len(row)], x)) {
					return false
				}
			}
			return true
		}
		grow(nil)
	}
}

// holdAgainst takes a decoder, and the chapter told a second time, through a row of steps behind bytes that wait.
func holdAgainst(t *testing.T, ahead string, d Decoder, row []int) {
	want := asked{waits: []byte(ahead)}
	for k, x := range row {
		var l, told []Key
		if x == tick {
			l, told = d.Tick(), want.tick()
		} else {
			l, told = d.Put(byte(x)), want.put(byte(x))
		}
		if !slices.Equal(l, told) {
			t.Fatalf("P4.1, P4.2: behind %+q, of %x: step %d tells %v, not %v", ahead, row, k, l, told)
		}
		if d.Waits() != (len(want.waits) > 0) || d.Pasting() != want.pasting() {
			t.Fatalf("P4.1: behind %+q, of %x: step %d: Waits %v, Pasting %v", ahead, row, k, d.Waits(), d.Pasting())
		}
	}
	tail := join(d.Tick(), d.Tick())
	if d.Waits() != d.Pasting() || !slices.Equal(tail, join(want.tick(), want.tick())) {
		t.Fatalf("P4.3: behind %+q, of %x, and two Ticks: %v, Waits %v, Pasting %v", ahead, row, tail, d.Waits(), d.Pasting())
	}
}

// holdRows does so with all rows of at most most of few steps.
func holdRows(t *testing.T, ahead string, few []int, most int) {
	var d Decoder
	if l := d.Feed([]byte(ahead)); len(l) > 0 {
		t.Fatalf("P4.1: %+q does not wait: %v", ahead, l)
	}
	for row := range eachRow(few, most) {
		holdAgainst(t, ahead, d, row)
	}
}

func TestAllRows(t *testing.T) {
	holdRows(t, "", []int{tick, 0x1b, '[', 'O', '1', ';', '3', '?', '@', 'A', 'C', '~', 0x7f, 'b', 0x0d, 0x00, 0xc3, 0xa9, 0xe2, 0xf0, 0x9f, 0xff}, 4)
	for _, ahead := range []string{"\x1b[1", "\x1b[1;", "\x1b[20", "\x1b[1234567890123456", "\xf0\x9f", "\xe2"} {
		holdRows(t, ahead, []int{tick, 0x1b, '[', 'O', '0', '5', ' ', 'D', '~', 0x7f, 0x01, 0x80, 0xc2}, 3)
	}
	inPaste := []int{0x1b, '[', '2', '0', '1', '~'}
	holdRows(t, "\x1b[200~", inPaste, 6)
	holdRows(t, "\x1b[200~a\x1b[20", append(inPaste, tick), 4)
	holdRows(t, "\x1b[200~"+strings.Repeat("a", 2*api.MaxText-2)+"\x1b[2", append(inPaste, tick), 4)
}

// pieces are the bytes of all keys, and such as are broken off, or no key's.
func pieces() []string {
	l := []string{
		"a", " ", "é", "中", "😀", "e\u0301", "\xff", "\xc3", "\xe4\xb8", "\xf0\x9f\x98", "\u0085", "\x00", "\x1b", "\x1b[", "\x1b[1;", "\x1b[12345678901234567", "\x1b[12345678901234567A", "\x1bO", "\x1b[E", "\x1bOE", "\x1bB",
		"\x1b[200~ab\x1b[201~", "\x1b[200~\x1b[201~", "\x1b[200~", "\x1b[201~", "\x1b[200~\x1b[20a\xff\x1b[201~", "\x1b[20",
	}
	for s := range askedKinds {
		l = append(l, s)
	}
	slices.Sort(l)
	return l
}

func TestCuts(t *testing.T) {
	for _, first := range pieces() {
		for _, second := range pieces() {
			for _, third := range []string{"", "\x1b[A", "\xa9x", "~", "\x1b[201~z"} {
				b := []byte(first + second + third)
				var whole, single Decoder
				want := whole.Feed(b)
				var told asked
				var l, again []Key
				for _, x := range b {
					l = append(l, single.Put(x)...)
					again = append(again, told.put(x)...)
				}
				if !slices.Equal(l, want) || !slices.Equal(again, want) || single != whole {
					t.Fatalf("P4.3: %+q at once: %v; byte by byte: %v; asked: %v", b, want, l, again)
				}
				for cut := range len(b) + 1 {
					var d Decoder
					if l := join(d.Feed(b[:cut]), d.Feed(nil), d.Feed(b[cut:])); !slices.Equal(l, want) || d != whole {
						t.Fatalf("P4.3: %+q, cut at %d: %v, not %v", b, cut, l, want)
					}
				}
				whole.Tick()
				whole.Tick()
				if whole.Waits() != whole.Pasting() {
					t.Fatalf("P4.3: %+q, and two Ticks: something waits that is no paste", b)
				}
			}
		}
	}
}

// TestLong: what waits may be as long as it likes; each byte is taken in as many steps.
func TestLong(t *testing.T) {
	var d Decoder
	long := []byte(strings.Repeat("12;?", 1<<20))
	if l := d.Feed(append([]byte("\x1b["), long...)); len(l) > 0 || !d.Waits() {
		t.Errorf("P4.1: a long sequence: %v", l)
	}
	if l := d.Feed([]byte("Cx")); !slices.Equal(l, join(of(Ignored), typed("x"))) {
		t.Errorf("P4.1: the end of a long sequence: %v", l)
	}
	if l := d.Feed(append([]byte("\x1b[200~"), long...)); len(l) > 0 || !d.Pasting() {
		t.Errorf("P4.1: a long paste: %v", l)
	}
	if l := d.Feed([]byte("\x1b[201~")); !slices.Equal(l, pasted(string(long[:2*api.MaxText]))) {
		t.Errorf("P4.1: the end of a long paste: %v", l)
	}
	if l := d.Feed(long); len(l) != len(long) || d.Waits() {
		t.Errorf("P4.1: %d keys of %d bytes", len(l), len(long))
	}
}

// TestOwn: a copy of a decoder goes on by itself, and neither bytes that were fed nor keys that were told are kept.
func TestOwn(t *testing.T) {
	for _, x := range []struct {
		b, one, other      string
		wantOne, wantOther []Key
	}{
		{"\x1b[1;5", "C", "D", of(WordRight), of(WordLeft)},
		{"\xe4\xb8", "\xad", "\xae", typed("中"), typed("丮")},
		{"\x1b[200~a\x1b[2", "b\x1b[201~", "01~", pasted("a[2b"), pasted("a")},
	} {
		var d Decoder
		b := []byte(x.b)
		d.Feed(b)
		if string(b) != x.b {
			t.Errorf("R5: what was fed has become %+q", b)
		}
		clear(b)
		copied := d
		one, other := d.Feed([]byte(x.one)), copied.Feed([]byte(x.other))
		if !slices.Equal(one, x.wantOne) || !slices.Equal(other, x.wantOther) {
			t.Errorf("R6: %+q: %v and %v", x.b, one, other)
		}
		one[0] = Key{}
		if l := d.Feed([]byte("a")); !slices.Equal(l, typed("a")) || !slices.Equal(other, x.wantOther) {
			t.Errorf("R6: %+q: what was told is kept", x.b)
		}
	}
}
