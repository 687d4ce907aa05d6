package line

import (
	"iter"
	"math"
	"slices"
	"strconv"
	"strings"
	"testing"

	"souffleur/keys"
	"souffleur/sign"
	"souffleur/text"
	"souffleur/width"
)

// kinds is the keys that do something to a line, by their names.
var kinds = map[string]int{
	"Backspace": keys.Backspace, "Delete": keys.Delete, "Swap": keys.Swap,
	"Left": keys.Left, "Right": keys.Right, "Home": keys.Home, "End": keys.End, "WordLeft": keys.WordLeft, "WordRight": keys.WordRight,
	"KillEnd": keys.KillEnd, "KillWord": keys.KillWord, "KillStart": keys.KillStart, "KillBack": keys.KillBack,
	"Yank": keys.Yank, "Pop": keys.Pop, "Undo": keys.Undo, "Redo": keys.Redo,
}

// idle is the keys that do nothing to a line, by their names.
var idle = map[string]int{
	"Ignored": keys.Ignored, "Enter": keys.Enter, "Up": keys.Up, "Down": keys.Down, "Search": keys.Search,
	"Cancel": keys.Cancel, "Accept": keys.Accept, "Redraw": keys.Redraw, "Escape": keys.Escape,
}

// full is a text for which a line has just room.
var full = strings.Repeat("x", 600)

// three makes three kills, a the newest one, in six states.
const three = "set:c KillBack set:b KillBack set:a KillBack "

// words goes through the words of a row. Only a blank parts them: a text may hold all else that is white.
func words(row string) iter.Seq[string] {
	return func(yield func(word string) bool) {
		for word := range strings.SplitSeq(row, " ") {
			if word != "" && !yield(word) {
				return
			}
		}
	}
}

// play does to a line what a row of words says: the names of keys, and of calls with their texts, in which a ~ is a blank; all other words are Signs. It tells what each of them answered that answers: one sign each, + or -.
func play(l *Line, row string) string {
	answers := ""
	answered := func(is bool) {
		answers += map[bool]string{true: "+", false: "-"}[is]
	}
	for word := range words(row) {
		kind, of, _ := strings.Cut(word, ":")
		of = strings.ReplaceAll(strings.ReplaceAll(of, "~", " "), "FULL", full)
		if k, is := kinds[word]; is {
			answered(l.Key(keys.Key{Kind: k}))
			continue
		}
		if k, is := idle[word]; is {
			answered(l.Key(keys.Key{Kind: k}))
			continue
		}
		switch kind {
		case "sign":
			answered(l.Key(keys.Key{Kind: keys.Sign, Text: of}))
		case "paste":
			answered(l.Key(keys.Key{Kind: keys.Paste, Text: of}))
		case "set":
			l.Set(of)
		case "add":
			answered(l.Add(of))
		case "change":
			at := strings.Index(of, "|")
			answered(l.Change(text.Buf{S: of[:at] + of[at+1:], At: at}))
		case "Clear":
			l.Clear()
		default:
			answered(l.Key(keys.Key{Kind: keys.Sign, Text: strings.ReplaceAll(word, "~", " ")}))
		}
	}
	return answers
}

// played is a new line, to which a row of words was done.
func played(row string) *Line {
	l := New()
	play(l, row)
	return l
}

// show tells a line in words: its text with a | where the cursor is, its kills, and how many states are ahead and behind.
func show(l *Line) string {
	b := l.Buf()
	back, forth := l.Undos()
	told := b.S[:b.At] + "|" + b.S[b.At:] + " [" + strings.Join(l.Kills(), ", ") + "] " + strconv.Itoa(back) + " " + strconv.Itoa(forth)
	return strings.ReplaceAll(told, full, "FULL")
}

// rows fails where a new line, to which a row of words is done, is not as it is told.
func rows(t *testing.T, promise string, told [][2]string) {
	t.Helper()
	for _, row := range told {
		if is := show(played(row[0])); is != row[1] {
			t.Errorf("%s: %q: %q, not %q", promise, row[0], is, row[1])
		}
	}
}

func TestExample(t *testing.T) {
	rows(t, "P7.2", [][2]string{
		{"a b c", "abc| [] 1 0"},
		{"a b c KillBack", "| [abc] 2 0"},
		{"a b c KillBack Yank Yank", "abcabc| [abc] 4 0"},
		{"a b c KillBack Yank Yank Undo Undo", "| [abc] 2 2"},
	})
}

func TestNew(t *testing.T) {
	l := New()
	if l == nil {
		t.Fatal("P7.1: New is nil")
	}
	if b := l.Buf(); b != (text.Buf{}) {
		t.Errorf("P7.1: the buffer of a new line is %v", b)
	}
	if k := l.Kills(); len(k) != 0 {
		t.Errorf("P7.1: the kills of a new line are %q", k)
	}
	if back, forth := l.Undos(); back != 0 || forth != 0 {
		t.Errorf("P7.1: a new line has undos %d %d", back, forth)
	}
	other := New()
	play(l, "a KillBack b")
	if is := show(other); is != "| [] 0 0" {
		t.Errorf("P7.1: a new line beside another one is %s", is)
	}
}

// TestWhichKeys: each key tells whether it is one that does something to a line, also where there is nothing to do.
func TestWhichKeys(t *testing.T) {
	does := map[int]bool{keys.Sign: true, keys.Paste: true}
	for _, k := range kinds {
		does[k] = true
	}
	all := []int{math.MinInt, -1000, math.MaxInt}
	for k := -20; k < 300; k++ {
		all = append(all, k)
	}
	for _, start := range []string{"", "set:ab~cd Left", "set:ab~cd KillBack", "set:ab KillBack Yank", "a ~ b Undo"} {
		for _, k := range all {
			l := played(start)
			before := show(l)
			for _, s := range []string{"", "y", full, full + "x"} {
				if is := l.Key(keys.Key{Kind: k, Text: s}); is != does[k] {
					t.Errorf("P7.2: behind %q, key %d with a text of %d bytes tells %v", start, k, len(s), is)
				}
			}
			if !does[k] && show(l) != before {
				t.Errorf("P7.2: behind %q, key %d, which does nothing, makes of %s %s", start, k, before, show(l))
			}
		}
	}
}

// TestIdleKeys: keys that do nothing leave also what was done last, and the group that is open, as they were.
func TestIdleKeys(t *testing.T) {
	for name := range idle {
		rows(t, "P7.2", [][2]string{
			{"a " + name + " b", "ab| [] 1 0"},
			{"set:ab~cd KillBack " + name + " KillBack", "| [ab cd] 3 0"},
			{"set:ab KillBack set:cd KillBack Yank " + name + " Pop", "ab| [cd, ab] 6 0"},
			{"set:a set:b Undo " + name, "a| [] 1 1"},
		})
	}
	for _, k := range []int{math.MinInt, -1, keys.Escape + 1, math.MaxInt} {
		for _, row := range [][3]string{{"a", "b", "ab| [] 1 0"}, {"set:ab~cd KillBack", "KillBack", "| [ab cd] 3 0"}} {
			l := played(row[0])
			l.Key(keys.Key{Kind: k, Text: "y"})
			play(l, row[1])
			if is := show(l); is != row[2] {
				t.Errorf("P7.2: %s, key %d, %s: %s, not %s", row[0], k, row[1], is, row[2])
			}
		}
	}
}

func TestSign(t *testing.T) {
	rows(t, "P7.2", [][2]string{
		{"a", "a| [] 1 0"},
		{"a b", "ab| [] 1 0"},
		{"a b Left c d", "acd|b [] 2 0"},
		{"ab cd", "abcd| [] 1 0"},
		{"a _ 7 Z z A 0 9", "a_7ZzA09| [] 1 0"},
		{"é 中 a", "é中a| [] 1 0"},
		{"sign:\u0301 a", "\u0301a| [] 1 0"},
		{"a \u0301 b", "a\u0301b| [] 1 0"},
		{"a\u0301 b", "a\u0301b| [] 1 0"},
		{"sign:\xff a", "\uFFFDa| [] 1 0"},
		{"sign:a\x01 b", "ab| [] 1 0"},
		// What is no word stands alone, and ends the group; a word behind it opens one.
		{"~", " | [] 1 0"},
		{"~ ~", "  | [] 2 0"},
		{"a ~", "a | [] 2 0"},
		{"a ~ b", "a b| [] 3 0"},
		{"a b ~ c d", "ab cd| [] 3 0"},
		{"sign:\t a", " a| [] 2 0"},
		{"a sign:\r b", "a b| [] 3 0"},
		{"- -", "--| [] 2 0"},
		{"a - b", "a-b| [] 3 0"},
		{"-\u0301 b", "-\u0301b| [] 2 0"},
		{"sign:a~ b", "a b| [] 2 0"},
		{"sign:a~b c", "a bc| [] 2 0"},
		{"a sign:b~c d", "ab cd| [] 3 0"},
		{"sign:a- b", "a-b| [] 2 0"},
		// WordRight passes what is ahead of a word, too.
		{"sign:~a b", " ab| [] 1 0"},
		{"a sign:-b c", "a-bc| [] 1 0"},
		// An empty one changes nothing, but ends the group.
		{"sign:", "| [] 0 0"},
		{"a sign: b", "ab| [] 2 0"},
		{"a sign:\x01\x7f b", "ab| [] 2 0"},
	})
}

func TestPaste(t *testing.T) {
	rows(t, "P7.2", [][2]string{
		{"paste:a", "a| [] 1 0"},
		{"paste:a paste:b", "ab| [] 2 0"},
		{"a paste:b c", "abc| [] 3 0"},
		{"paste:a~b Left paste:c\x1bd\te\xff", "a cd e\uFFFD|b [] 2 0"},
		{"paste:", "| [] 0 0"},
		{"a paste: b", "ab| [] 2 0"},
		{"set:b Home paste:\u0301", "\u0301|b [] 2 0"},
		{"set:\u0301b Home paste:a", "a\u0301|b [] 2 0"},
		{"paste:FULL", "FULL| [] 1 0"},
	})
}

// TestNoRoom: a Sign, and a Paste, for which there is no room leave the buffer, and the group that is open, as they were.
func TestNoRoom(t *testing.T) {
	rows(t, "P7.2", [][2]string{
		{"sign:FULLx", "| [] 0 0"},
		{"paste:FULLx", "| [] 0 0"},
		{"set:FULL a paste:a sign:~ sign:a~", "FULL| [] 1 0"},
		{"set:FULL sign: paste: sign:\x01", "FULL| [] 1 0"},
		{"a paste:FULL b", "ab| [] 1 0"},
		{"a sign:FULL b", "ab| [] 1 0"},
		{"a sign:FULL~ b", "ab| [] 1 0"},
		{"set:a set:b Undo sign:FULL paste:FULL", "a| [] 1 1"},
	})
	for _, key := range []string{"sign", "paste"} {
		for n := 597; n <= 602; n++ {
			for _, s := range []string{"a", "bc", "中", " "} {
				l := New()
				l.Set(full[:min(n, 600)])
				is := play(l, "Left "+key+":"+strings.ReplaceAll(s, " ", "~"))
				want := text.Buf{S: full[:min(n, 600)], At: min(n, 600) - 1}
				if n+len(s) <= 600 {
					want = text.Buf{S: want.S[1:] + s + "x", At: want.At + len(s)}
				}
				if is != "++" || l.Buf() != want {
					t.Errorf("P7.2: %s of %q in a line of %d bytes tells %s, %d bytes, the cursor at %d", key, s, n, is, len(l.Buf().S), l.Buf().At)
				}
			}
		}
	}
}

// TestNeither: each key that does something, but for kills and yanks, and each other call, leaves neither killing nor yanking as what was done last, also where it finds nothing to do.
func TestNeither(t *testing.T) {
	both := []string{
		"sign:e", "sign:", "sign:~", "sign:FULL", "paste:e", "paste:", "paste:FULL", "Backspace", "Delete", "Swap",
		"Left", "Right", "Home", "End", "WordLeft", "WordRight", "Undo", "Redo", "Undo Redo",
		"set:cd", "set:cd~", "set:FULL", "add:e", "add:", "add:FULL", "change:cd|", "change:cd~|", "change:c|d",
	}
	// Behind killing what is killed then would come to the newest kill.
	for _, row := range append(both, "Yank", "Pop", "Yank Pop") {
		l := played("set:gh KillBack set:cd~ef KillBack " + row)
		b := l.Buf()
		kill, killed := "KillStart", b.S[:b.At]
		if b.At == 0 {
			kill, killed = "KillEnd", b.S
		}
		play(l, kill)
		if want := []string{killed, "ef", "gh"}; !slices.Equal(l.Kills(), want) {
			t.Errorf("P7.2, P7.3: killing, %s, %s: the kills are %q, not %q", row, kill, l.Kills(), want)
		}
	}
	// Behind yanking a Pop would bring another kill.
	for _, row := range append(both, "KillEnd", "KillWord", "KillStart", "KillBack", "set:", "change:|", "Clear") {
		l := played(three + "set:cd~ Yank " + row)
		before := show(l)
		if play(l, "Pop"); show(l) != before {
			t.Errorf("P7.2, P7.3: yanking, %s: a Pop makes of %s %s", row, before, show(l))
		}
	}
}

func TestCuts(t *testing.T) {
	rows(t, "P7.2", [][2]string{
		{"Backspace", "| [] 0 0"},
		{"Delete", "| [] 0 0"},
		{"set:abc Backspace", "ab| [] 2 0"},
		{"set:abc Backspace Backspace", "a| [] 3 0"},
		{"set:abc Left Backspace", "a|c [] 2 0"},
		{"set:abc Home Backspace", "|abc [] 1 0"},
		{"set:abc Delete", "abc| [] 1 0"},
		{"set:abc Left Delete", "ab| [] 2 0"},
		{"set:abc Home Delete Delete", "|c [] 3 0"},
		{"set:a中e\u0301 Backspace Backspace", "a| [] 3 0"},
		{"set:a中e\u0301 Home Right Delete Delete", "a| [] 3 0"},
		{"a b Backspace c", "ac| [] 3 0"},
		{"a b Home Delete c", "c|b [] 3 0"},
		{"Swap", "| [] 0 0"},
		{"set:a Swap", "a| [] 1 0"},
		{"set:ab Home Swap", "|ab [] 1 0"},
		{"set:ab Swap", "ba| [] 2 0"},
		{"set:ab Left Swap", "ba| [] 2 0"},
		{"set:abc Home Right Swap", "ba|c [] 2 0"},
		{"set:e\u0301中x Left Swap", "e\u0301x中| [] 2 0"},
		{"set:aa Swap", "aa| [] 1 0"},
		{"a b Swap c", "bac| [] 3 0"},
	})
}

func TestMoves(t *testing.T) {
	rows(t, "P7.2", [][2]string{
		{"Left", "| [] 0 0"}, {"Right", "| [] 0 0"}, {"Home", "| [] 0 0"}, {"End", "| [] 0 0"}, {"WordLeft", "| [] 0 0"}, {"WordRight", "| [] 0 0"},
		{"set:ab~cd Left", "ab c|d [] 1 0"},
		{"set:ab~cd Right", "ab cd| [] 1 0"},
		{"set:ab~cd Home", "|ab cd [] 1 0"},
		{"set:ab~cd Home Left", "|ab cd [] 1 0"},
		{"set:ab~cd Home Right", "a|b cd [] 1 0"},
		{"set:ab~cd Home End", "ab cd| [] 1 0"},
		{"set:ab~cd WordLeft", "ab |cd [] 1 0"},
		{"set:ab~cd WordLeft WordLeft", "|ab cd [] 1 0"},
		{"set:ab~cd Home WordRight", "ab| cd [] 1 0"},
		{"set:ab~cd Home WordRight WordRight", "ab cd| [] 1 0"},
		{"set:中e\u0301 Left Left Right", "中|e\u0301 [] 1 0"},
		// A move is none that could be undone, but the state keeps where the cursor went; what can be redone stays.
		{"set:ab Left paste:c Undo", "a|b [] 1 1"},
		{"set:ab set:cd Undo Home", "|ab [] 1 1"},
		{"set:ab set:cd Undo Home Redo", "cd| [] 2 0"},
		{"set:ab set:cd Undo Home Redo Undo", "|ab [] 1 1"},
	})
}

// TestEndOfGroup types two words, with something between that leaves the text as it is: are both undone at once?
func TestEndOfGroup(t *testing.T) {
	for _, row := range []string{
		"sign:", "sign:\x01", "paste:", "Delete", "Right", "End", "Left Right", "Home End", "WordLeft End", "WordRight", "KillEnd", "KillWord",
		"Swap Left Swap", "set:ab", "add:", "add:\x01", "add:FULL", "change:ab|", "Undo Redo",
	} {
		l := played("a b " + row)
		back, _ := l.Undos()
		play(l, "c d")
		if more, _ := l.Undos(); more != back+1 {
			t.Errorf("P7.2: a b %s c d: %s: the group did not end", row, show(l))
		}
	}
	for _, row := range []string{
		"", "sign:FULL", "sign:FULL~", "paste:FULL", "Yank", "Pop", "Redo", "Swap", "Redo Pop Yank Swap Enter",
	} {
		l := played("b " + row + " c d")
		if is := show(l); is != "bcd| [] 1 0" {
			t.Errorf("P7.2: b %s c d: %s: the group ended", row, is)
		}
	}
	rows(t, "P7.2", [][2]string{
		{"a a Swap b", "aab| [] 2 0"},
		{"set:b Home a Backspace c", "c|b [] 4 0"},
		{"set:FULL KillBack a Yank b", "ab| [FULL] 3 0"},
		{"a Home Backspace b", "b|a [] 2 0"},
		{"a Home KillStart b", "b|a [] 2 0"},
		{"a Home KillBack b", "b|a [] 2 0"},
		{"a KillBack b", "b| [a] 3 0"},
		{"a KillBack Yank b", "ab| [a] 4 0"},
		{"a b Undo c", "c| [] 1 0"},
		{"a ~ b Undo c", "a c| [] 3 0"},
		{"a Clear b", "b| [] 1 0"},
		{"a set:b c", "bc| [] 3 0"},
		{"a add:b c", "abc| [] 3 0"},
		{"a change:b| c", "bc| [] 3 0"},
		{"set:b c", "bc| [] 2 0"},
		{"add:b c", "bc| [] 2 0"},
		{"change:b| c", "bc| [] 2 0"},
		{"Clear b c", "bc| [] 1 0"},
	})
}

func TestKills(t *testing.T) {
	rows(t, "P7.2", [][2]string{
		{"set:ab~cd Left Left Left KillEnd", "ab| [ cd] 2 0"},
		{"set:ab~cd Left Left Left KillWord", "ab| [ cd] 2 0"},
		{"set:ab~cd~ef Home KillWord", "| cd ef [ab] 2 0"},
		{"set:ab~cd Left KillStart", "|d [ab c] 2 0"},
		{"set:ab~cd Left KillBack", "ab |d [c] 2 0"},
		{"set:ab~cd Home Right KillEnd", "a| [b cd] 2 0"},
		{"set:ab~cd Home Right KillWord", "a| cd [b] 2 0"},
		{"set:ab~cd KillStart", "| [ab cd] 2 0"},
		{"set:ab~cd KillBack", "ab | [cd] 2 0"},
		{"set:中e\u0301 KillBack", "| [中e\u0301] 2 0"},
		// Of nothing.
		{"KillEnd", "| [] 0 0"}, {"KillWord", "| [] 0 0"}, {"KillStart", "| [] 0 0"}, {"KillBack", "| [] 0 0"},
		{"set:ab KillEnd", "ab| [] 1 0"}, {"set:ab KillWord", "ab| [] 1 0"},
		{"set:ab Home KillStart", "|ab [] 1 0"}, {"set:ab Home KillBack", "|ab [] 1 0"},
		// Another one behind something else.
		{"set:ab~cd KillBack Right KillBack", "| [ab , cd] 3 0"},
		{"set:ab~cd Home KillWord Left KillEnd", "| [ cd, ab] 3 0"},
		{"set:ab KillBack set:ab KillBack", "| [ab, ab] 4 0"},
	})
}

// TestKillsBehindKills: a kill behind a kill is put to the newest one, at the end from which it was.
func TestKillsBehindKills(t *testing.T) {
	rows(t, "P7.2", [][2]string{
		{"set:ab~cd KillBack KillBack", "| [ab cd] 3 0"},
		{"set:ab~cd Home KillWord KillWord", "| [ab cd] 3 0"},
		{"set:ab~cd Left Left KillEnd KillStart", "| [ab cd] 3 0"},
		{"set:ab~cd Left Left KillStart KillEnd", "| [ab cd] 3 0"},
		{"set:ab~cd~ef Left Left Left KillBack KillWord KillStart KillEnd", "| [ab cd ef] 4 0"},
		{"set:ab~cd~ef Left Left Left KillWord KillBack KillWord KillBack", "| [ab cd ef] 4 0"},
		{"set:ab~cd KillBack KillBack Yank", "ab cd| [ab cd] 4 0"},
		{"set:x KillBack set:ab~cd KillBack KillBack", "| [ab cd, x] 5 0"},
		// Of nothing behind a kill: the next one is put to it, too.
		{"set:ab~cd KillBack KillEnd KillBack", "| [ab cd] 3 0"},
		{"set:ab~cd Home KillWord KillStart KillBack KillEnd", "| [ab cd] 3 0"},
		{"set:ab KillBack KillBack KillEnd KillWord KillStart", "| [ab] 2 0"},
		// Of nothing behind none: killing was done last all the same.
		{"set:x KillBack set:y KillEnd KillStart", "| [yx] 4 0"},
		{"set:x KillBack set:y KillWord KillBack", "| [yx] 4 0"},
		{"set:x KillBack set:y Home KillStart KillEnd", "| [xy] 4 0"},
		{"set:x KillBack set:y Home KillBack KillWord", "| [xy] 4 0"},
		{"KillEnd paste:ab KillBack", "| [ab] 2 0"},
		{"set:ab KillEnd KillBack", "| [ab] 2 0"},
		{"set:ab Home KillStart KillEnd", "| [ab] 2 0"},
		// To the newest one, wherever Pops stood; then Yank brings that, and Pop the next older one.
		{"set:x KillBack set:y KillBack Yank Pop KillEnd KillStart", "| [xy, x] 7 0"},
		{"set:x KillBack set:y KillBack Yank Pop KillStart Yank Pop", "y| [x, y, x] 9 0"},
		{"set:x KillBack set:y KillBack Yank Pop KillEnd KillStart Yank Pop", "x| [xy, x] 9 0"},
	})
}

func TestRingOfKills(t *testing.T) {
	l := New()
	var want []string
	for k := range 20 {
		s := "k" + strconv.Itoa(k)
		play(l, "set:"+s+" KillBack")
		want = append([]string{s}, want...)
		want = want[:min(len(want), 8)]
		if !slices.Equal(l.Kills(), want) {
			t.Fatalf("P7.1: behind %d kills they are %q, not %q", k+1, l.Kills(), want)
		}
	}
	for turn := range 20 {
		b := l.Buf()
		play(l, map[bool]string{true: "Yank", false: "Pop"}[turn == 0])
		if is := l.Buf().S; is != want[turn%8] {
			t.Fatalf("P7.2: Pop number %d makes of %q %q, not %q", turn, b.S, is, want[turn%8])
		}
		if !slices.Equal(l.Kills(), want) {
			t.Fatalf("P7.1: behind Pops the kills are %q", l.Kills())
		}
	}
	told := l.Kills()
	told[0] = "other"
	if !slices.Equal(l.Kills(), want) {
		t.Error("R6: Kills is written into, and tells it")
	}
}

func TestYanks(t *testing.T) {
	rows(t, "P7.2", [][2]string{
		{"Yank", "| [] 0 0"},
		{"set:ab Yank", "ab| [] 1 0"},
		{three + "Yank", "a| [a, b, c] 7 0"},
		{three + "Yank Yank", "aa| [a, b, c] 8 0"},
		{three + "set:xy Left Yank", "xa|y [a, b, c] 8 0"},
		{three + "set:xy Home Yank", "a|xy [a, b, c] 8 0"},
		{three + "Yank Undo", "| [a, b, c] 6 1"},
		// Yank brings the newest one, wherever Pops stood.
		{three + "Yank Pop Yank", "ba| [a, b, c] 9 0"},
		{three + "Yank Pop Pop Left Yank", "a|c [a, b, c] 10 0"},
		{three + "Yank Pop Yank Pop", "bb| [a, b, c] 10 0"},
	})
}

func TestYankWithoutRoom(t *testing.T) {
	rows(t, "P7.2", [][2]string{
		{"set:a KillBack set:FULL Yank", "FULL| [a] 3 0"},
		{"set:FULL KillBack Yank", "FULL| [FULL] 3 0"},
		{"set:FULL KillBack Yank Yank", "FULL| [FULL] 3 0"},
		{"set:FULL KillBack a Yank", "a| [FULL] 3 0"},
		{"set:a set:b set:FULL KillBack set:c set:d Undo Yank", "c| [FULL] 5 1"},
		// It is neither yanking ..
		{"set:a KillBack set:FULL KillBack set:b Yank Pop", "b| [FULL, a] 5 0"},
		{"set:a KillBack set:FULL KillBack Yank Left Yank Pop", strings.Replace("FULL [FULL, a] 5 0", "FULL ", full[1:]+"|x ", 1)},
		// .. nor killing.
		{"set:FULL KillBack set:ab KillEnd Yank KillStart", "| [ab, FULL] 4 0"},
	})
}

func TestPops(t *testing.T) {
	rows(t, "P7.2", [][2]string{
		{"Pop", "| [] 0 0"},
		{"set:ab Pop", "ab| [] 1 0"},
		{three + "Yank Pop", "b| [a, b, c] 8 0"},
		{three + "Yank Pop Pop", "c| [a, b, c] 9 0"},
		{three + "Yank Pop Pop Pop", "a| [a, b, c] 10 0"},
		{three + "Yank Yank Pop", "ab| [a, b, c] 9 0"},
		{three + "set:xy Left Yank Pop", "xb|y [a, b, c] 9 0"},
		{three + "set:xy Left Yank Pop Pop", "xc|y [a, b, c] 10 0"},
		{"set:12345 KillBack set:中 KillBack set:abc KillBack set:xy Left Yank Pop", "x中|y [abc, 中, 12345] 9 0"},
		{"set:12345 KillBack set:中 KillBack set:abc KillBack set:xy Left Yank Pop Pop", "x12345|y [abc, 中, 12345] 10 0"},
		{"set:12345 KillBack set:中 KillBack set:abc KillBack set:xy Left Yank Pop Pop Pop", "xabc|y [abc, 中, 12345] 11 0"},
		// In one: an Undo brings back what was yanked ahead of it.
		{three + "Yank Pop Undo", "a| [a, b, c] 7 1"},
		{three + "Yank Pop Undo Redo", "b| [a, b, c] 8 0"},
		{three + "Yank Pop Undo Undo", "| [a, b, c] 6 2"},
		// Behind what is no yank.
		{three + "Pop", "| [a, b, c] 6 0"},
		{three + "Yank Right Pop", "a| [a, b, c] 7 0"},
		{three + "Yank Pop Right Pop", "b| [a, b, c] 8 0"},
		{three + "Yank Undo Pop", "| [a, b, c] 6 1"},
		{three + "Yank Undo Redo Pop", "a| [a, b, c] 7 0"},
		{three + "Yank KillEnd Pop", "a| [a, b, c] 7 0"},
		// It did not turn the ring then.
		{three + "Yank Right Pop Yank Pop", "ab| [a, b, c] 9 0"},
		// Of one kill, or of two that are the same: there is nothing to be undone.
		{"set:a KillBack Yank Pop", "a| [a] 3 0"},
		{"set:a KillBack Yank Pop Pop", "a| [a] 3 0"},
		{"set:a KillBack set:a KillBack Yank Pop", "a| [a, a] 5 0"},
	})
}

// TestPopWithoutRoom: the ring is turned, the yank stays, and the next Pop takes it away.
func TestPopWithoutRoom(t *testing.T) {
	kills := "set:c KillBack set:FULL KillBack set:a KillBack set:xy Left "
	rows(t, "P7.2", [][2]string{
		{kills + "Yank", "xa|y [a, FULL, c] 8 0"},
		{kills + "Yank Pop", "xa|y [a, FULL, c] 8 0"},
		{kills + "Yank Pop Pop", "xc|y [a, FULL, c] 9 0"},
		{kills + "Yank Pop Pop Pop", "xa|y [a, FULL, c] 10 0"},
		{kills + "Yank Pop Pop Pop Pop Pop", "xc|y [a, FULL, c] 11 0"},
		{kills + "Yank Pop Left Pop", "x|ay [a, FULL, c] 8 0"},
		{kills + "Yank Pop Enter Pop", "xc|y [a, FULL, c] 9 0"},
		{kills + "Yank Pop Yank", "xaa|y [a, FULL, c] 9 0"},
		// There is room just if there is, when what was yanked is gone.
		{"set:FULL KillBack set:a KillBack Yank Pop", "FULL| [a, FULL] 6 0"},
		{"set:FULL KillBack set:a KillBack Yank Pop Pop", "a| [a, FULL] 7 0"},
	})
}

// TestSeams: at a seam with a sign of width 0 the cursor goes on to a bound, and what is between from and to is what Cut takes.
func TestSeams(t *testing.T) {
	rows(t, "P7.2", [][2]string{
		{"set:\u0301 KillBack set:e Yank", "e\u0301| [\u0301] 4 0"},
		{"set:x KillBack set:\u0301 KillBack set:e Yank Pop", "x| [\u0301, x] 7 0"},
		{"set:x KillBack set:\u0301 KillBack set:e Yank Pop Pop", "\u0301| [\u0301, x] 8 0"},
		{"set:e KillBack set:\u0301y Home Yank", "e\u0301|y [e] 4 0"},
		{"set:x KillBack set:e KillBack set:\u0301y Home Yank Pop", "x|y [e, x] 7 0"},
	})
}

func TestUndoAndRedo(t *testing.T) {
	rows(t, "P7.2", [][2]string{
		{"Undo", "| [] 0 0"},
		{"Redo", "| [] 0 0"},
		{"a Undo", "| [] 0 1"},
		{"a Undo Undo", "| [] 0 1"},
		{"a Redo", "a| [] 1 0"},
		{"a Undo Redo", "a| [] 1 0"},
		{"a Undo Redo Redo", "a| [] 1 0"},
		{"a b c Undo", "| [] 0 1"},
		{"a b c Undo Redo", "abc| [] 1 0"},
		{"a b ~ c Undo", "ab | [] 2 1"},
		{"a b ~ c Undo Undo", "ab| [] 1 2"},
		{"a b ~ c Undo Undo Undo", "| [] 0 3"},
		{"a b ~ c Undo Undo Redo", "ab | [] 2 1"},
		{"a b ~ c Undo Undo d", "abd| [] 2 0"},
		{"a b Undo c d Undo", "| [] 0 1"},
		{"a b Redo c Undo", "| [] 0 1"},
		{"a ~ Undo b Undo", "a| [] 1 1"},
		// The cursor comes back, too.
		{"set:abc Home Delete Right Undo", "|abc [] 1 1"},
		{"set:abc Home Delete Right Undo Redo", "b|c [] 2 0"},
		// Kills are not undone.
		{"set:ab KillBack Undo", "ab| [ab] 1 1"},
		{"set:ab KillBack Undo KillBack", "| [ab, ab] 2 0"},
		{"set:ab KillBack Undo Redo", "| [ab] 2 0"},
		{"set:ab Undo Undo Undo Redo Redo Redo", "ab| [] 1 0"},
		{"set:ab set:cd Undo set:ef Redo", "ef| [] 2 0"},
		{"set:ab set:cd Undo set:ab Redo", "cd| [] 2 0"},
		{"set:ab set:cd Undo Backspace Redo", "a| [] 2 0"},
		{"set:ab set:cd Undo Delete Redo", "cd| [] 2 0"},
	})
}

// TestManyUndos: there are never more than 32 states ahead; the oldest one goes.
func TestManyUndos(t *testing.T) {
	l := New()
	for n := 1; n <= 80; n++ {
		play(l, "~")
		if back, forth := l.Undos(); back != min(n, 32) || forth != 0 {
			t.Fatalf("P7.1: behind %d blanks Undos is %d %d", n, back, forth)
		}
	}
	play(l, strings.Repeat("Undo ", 40))
	if is := show(l); is != strings.Repeat(" ", 48)+"| [] 0 32" {
		t.Errorf("P7.2: all undone: %q", is)
	}
	play(l, strings.Repeat("Redo ", 40))
	if is := show(l); is != strings.Repeat(" ", 80)+"| [] 32 0" {
		t.Errorf("P7.2: all redone: %q", is)
	}
	play(l, "Clear"+strings.Repeat(" ~", 40))
	if is := show(l); is != strings.Repeat(" ", 40)+"| [] 32 0" {
		t.Errorf("P7.3: forty blanks behind Clear: %q", is)
	}
}

func TestSet(t *testing.T) {
	rows(t, "P7.3", [][2]string{
		{"set:", "| [] 0 0"},
		{"set:ab", "ab| [] 1 0"},
		{"set:ab set:cd", "cd| [] 2 0"},
		{"set:ab set:ab", "ab| [] 1 0"},
		{"set:ab Home set:ab", "ab| [] 2 0"},
		{"set:ab set:", "| [] 2 0"},
		{"set:a\tb\x1bc", "a bc| [] 1 0"},
		{"set:\xff\xff", "\uFFFD\uFFFD| [] 1 0"},
		{"set:FULL", "FULL| [] 1 0"},
		{"set:FULLx", "FULL| [] 1 0"},
		{"set:FULL set:FULLy", "FULL| [] 1 0"},
		{"set:ab set:cd Undo set:ab", "ab| [] 1 1"},
		{"set:ab set:cd Undo set:", "| [] 2 0"},
		{"a b set:c", "c| [] 2 0"},
		{"a set:b Undo", "a| [] 1 1"},
		{"set:x KillBack set:ab KillBack", "| [ab, x] 4 0"},
	})
	// A text that is too long is cut to a bound.
	for _, row := range []struct{ s, want string }{
		{full[1:] + "中", full[1:]},
		{full[3:] + "中", full[3:] + "中"},
		{full[1:] + "e\u0301", full[1:]},
		{full[3:] + "e\u0301z", full[3:] + "e\u0301"},
		{strings.Repeat("\xff", 300), strings.Repeat("\uFFFD", 200)},
		{strings.Repeat("\xff", 200), strings.Repeat("\uFFFD", 200)},
		{strings.Repeat("\x01", 700) + full + "y", full},
	} {
		l := New()
		l.Set(row.s)
		if b := l.Buf(); b != (text.Buf{S: row.want, At: len(row.want)}) {
			t.Errorf("P7.3: Set of %d bytes leaves %d, the cursor at %d; asked are %d", len(row.s), len(b.S), b.At, len(row.want))
		}
	}
}

// TestAdd: each row with what its calls answer.
func TestAdd(t *testing.T) {
	for _, row := range []struct{ row, answers, want string }{
		{"add:", "-", "| [] 0 0"},
		{"add:a", "+", "a| [] 1 0"},
		{"add:a add:b", "++", "ab| [] 2 0"},
		{"add:~ add:~", "++", "  | [] 2 0"},
		{"set:ab add:cd", "+", "abcd| [] 2 0"},
		{"set:ab Home add:cd", "++", "abcd| [] 2 0"},
		{"set:ab Home add:cd Undo", "+++", "|ab [] 1 1"},
		{"set:ab Left add:c\td\xff\x01", "++", "abc d\uFFFD| [] 2 0"},
		{"set:e Home add:\u0301", "++", "e\u0301| [] 2 0"},
		{"set:ab Home add:", "+-", "|ab [] 1 0"},
		{"set:ab Home add:\x01\x9b", "++", "ab\uFFFD| [] 2 0"},
		{"set:ab Home add:\x01\u009b\x7f", "+-", "|ab [] 1 0"},
		{"set:ab Home add:FULL", "+-", "|ab [] 1 0"},
		{"set:FULL Home add:a", "+-", "|FULL [] 1 0"},
		{"set:FULL add:", "-", "FULL| [] 1 0"},
		{"add:FULL", "+", "FULL| [] 1 0"},
		{"add:FULLx", "-", "| [] 0 0"},
		{"set:ab set:cd Undo Home add:", "++-", "|ab [] 1 1"},
		{"set:ab set:cd Undo add:FULL", "+-", "ab| [] 1 1"},
		{"set:ab set:cd Undo add:e", "++", "abe| [] 2 0"},
		// Behind an open group.
		{"a add:b c", "+++", "abc| [] 3 0"},
		{"a add: c", "+-+", "ac| [] 2 0"},
		{"a add:\x01 c", "+-+", "ac| [] 2 0"},
		{"a add:FULL c", "+-+", "ac| [] 2 0"},
		// Behind killing and yanking.
		{"set:ab KillBack set:c KillEnd add: KillBack", "++-+", "| [c, ab] 4 0"},
		{"set:ab KillBack set:c KillEnd add:FULL KillBack", "++-+", "| [c, ab] 4 0"},
		{"set:ab KillBack set:c KillEnd add:d KillBack", "++++", "| [cd, ab] 5 0"},
		{three + "Yank add: Pop", "++++-+", "a| [a, b, c] 7 0"},
		{three + "Yank add:FULL Pop", "++++-+", "a| [a, b, c] 7 0"},
	} {
		l := New()
		answers := play(l, row.row)
		if is := show(l); is != row.want || answers != row.answers {
			t.Errorf("P7.3: %q: %s %q, not %s %q", row.row, answers, is, row.answers, row.want)
		}
	}
	for n := 590; n <= 600; n++ {
		for more := range 14 {
			l := New()
			l.Set(full[:n])
			play(l, "Home")
			want := text.Buf{S: full[:n]}
			if more > 0 && n+more <= 600 {
				want = text.Buf{S: full[:n+more], At: n + more}
			}
			if is := l.Add(full[:more]); is != (want.At > 0) || l.Buf() != want {
				t.Errorf("P7.3: Add of %d bytes to %d is %v", more, n, is)
			}
		}
	}
}

func TestChange(t *testing.T) {
	for _, row := range []struct{ row, answers, want string }{
		{"change:|", "-", "| [] 0 0"},
		{"change:a|b", "+", "a|b [] 1 0"},
		{"change:a|b change:a|b", "+-", "a|b [] 1 0"},
		{"change:a|b change:ab|", "++", "ab| [] 2 0"},
		{"change:a|b change:ab| Undo", "+++", "a|b [] 1 1"},
		{"set:ab change:|", "+", "| [] 2 0"},
		{"set:ab change:ab|", "-", "ab| [] 1 0"},
		{"set:ab change:a\x01b|", "-", "ab| [] 1 0"},
		{"set:a~b change:a\tb|", "-", "a b| [] 1 0"},
		{"set:FULL change:FULLy|", "-", "FULL| [] 1 0"},
		{"change:FULLy|", "+", "FULL| [] 1 0"},
		{"set:ab set:cd Undo change:ab|", "+-", "ab| [] 1 1"},
		{"set:ab set:cd Undo change:|ab", "++", "|ab [] 2 0"},
		{"a change:a| b", "+-+", "ab| [] 2 0"},
		{"a change:b| c", "+++", "bc| [] 3 0"},
		{"set:ab KillBack set:c KillEnd change:c| KillBack", "++-+", "| [c, ab] 4 0"},
		{"set:ab KillBack set:c KillEnd change:d| KillBack", "++++", "| [d, ab] 5 0"},
		{three + "Yank change:a| Pop", "++++-+", "a| [a, b, c] 7 0"},
	} {
		l := New()
		answers := play(l, row.row)
		if is := show(l); is != row.want || answers != row.answers {
			t.Errorf("P7.3: %q: %s %q, not %s %q", row.row, answers, is, row.answers, row.want)
		}
	}
	// Of a line that is not right Make is taken.
	for _, row := range []struct{ b, want text.Buf }{
		{text.Buf{S: "ab", At: -1}, text.Buf{S: "ab"}},
		{text.Buf{S: "ab", At: math.MinInt}, text.Buf{S: "ab"}},
		{text.Buf{S: "ab", At: 3}, text.Buf{S: "ab", At: 2}},
		{text.Buf{S: "ab", At: math.MaxInt}, text.Buf{S: "ab", At: 2}},
		{text.Buf{S: "中e\u0301", At: 2}, text.Buf{S: "中e\u0301"}},
		{text.Buf{S: "中e\u0301", At: 5}, text.Buf{S: "中e\u0301", At: 3}},
		{text.Buf{S: "\xff\x01", At: 1}, text.Buf{S: "\uFFFD"}},
		{text.Buf{S: full + "y", At: 601}, text.Buf{S: full, At: 600}},
		{text.Buf{S: full[1:] + "中", At: 599}, text.Buf{S: full[1:], At: 599}},
	} {
		l := New()
		if !l.Change(row.b) || l.Buf() != row.want {
			t.Errorf("P7.3: Change of %v leaves %v, not %v", row.b, l.Buf(), row.want)
		}
		if l.Change(row.b) || l.Change(row.want) || l.Buf() != row.want {
			t.Errorf("P7.3: a second Change of %v is another one", row.b)
		}
		if !l.Change(text.Buf{}) {
			t.Errorf("P7.3: Change of %v to nothing is none", row.b)
		}
	}
}

func TestClear(t *testing.T) {
	rows(t, "P7.3", [][2]string{
		{"Clear", "| [] 0 0"},
		{"a b Clear", "| [] 0 0"},
		{"a b Clear Undo Redo", "| [] 0 0"},
		{"set:ab set:cd Undo Clear", "| [] 0 0"},
		{"a Clear b Undo", "| [] 0 1"},
		{three + "Clear", "| [a, b, c] 0 0"},
		{three + "Clear Yank", "a| [a, b, c] 1 0"},
		{three + "Clear Yank Pop Pop", "c| [a, b, c] 3 0"},
		{three + "Yank Pop Clear Yank", "a| [a, b, c] 1 0"},
		{three + "Yank Clear Pop", "| [a, b, c] 0 0"},
		{three + "Clear paste:ab KillBack", "| [ab, a, b, c] 2 0"},
		{"set:ab~cd KillBack Clear paste:x KillBack", "| [x, cd] 2 0"},
		{"a Clear b c", "bc| [] 1 0"},
		{"Clear Clear", "| [] 0 0"},
	})
}

// What is named "asked" tells what the chapter asks a second time: lists that are never written into, and one row of cases.

type asked struct {
	ahead, behind []text.Buf // the nearest one first
	buf           text.Buf
	open          bool
	kills         []string
	turned        int // how far from the newest one the ring stands
	last          string
	from, to      int
}

func (a asked) writes(b text.Buf, word bool) asked {
	if b != a.buf {
		if !word || !a.open {
			a.ahead = slices.Concat([]text.Buf{a.buf}, a.ahead)
			a.ahead = a.ahead[:min(len(a.ahead), 32)]
		}
		a.buf, a.behind, a.open = b, nil, word
	}
	a.open = a.open && word
	return a
}

func (a asked) moves(at int) asked {
	a.buf.At, a.open = at, false
	return a
}

func (a asked) cuts(from, to int) asked {
	b, _ := text.Cut(a.buf, from, to)
	return a.writes(b, false)
}

func (a asked) killed(from, to int, was string) asked {
	s := a.buf.S[from:to]
	ahead := to == a.buf.At
	a = a.cuts(from, to)
	a.last = "killing"
	if s == "" {
		return a
	}
	a.turned = 0
	if was != "killing" || len(a.kills) == 0 {
		a.kills = slices.Concat([]string{s}, a.kills)
		a.kills = a.kills[:min(len(a.kills), 8)]
		return a
	}
	joined := a.kills[0] + s
	if ahead {
		joined = s + a.kills[0]
	}
	a.kills = slices.Concat([]string{joined}, a.kills[1:])
	return a
}

func (a asked) yanked(b text.Buf, word string) (asked, bool) {
	with, no := text.Insert(b, word)
	if no != 0 {
		return a, false
	}
	a = a.writes(with, false)
	a.last, a.from, a.to = "yanking", b.At, with.At
	return a, true
}

func (a asked) popped() asked {
	b, _ := text.Cut(a.buf, a.from, a.to)
	a.turned = (a.turned + 1) % len(a.kills)
	next, is := a.yanked(b, a.kills[a.turned])
	if !is {
		a.last = "yanking"
		return a
	}
	return next
}

func (a asked) inserts(k keys.Key) asked {
	b, no := text.Insert(a.buf, k.Text)
	if no != 0 {
		return a
	}
	s := text.Plain(k.Text)
	return a.writes(b, k.Kind == keys.Sign && s != "" && text.WordRight(s+" ", 0) == len(s))
}

func (a asked) key(k keys.Key) (asked, bool) {
	s, at, was, before := a.buf.S, a.buf.At, a.last, a
	a.last = ""
	switch k.Kind {
	case keys.Sign, keys.Paste:
		return a.inserts(k), true
	case keys.Backspace:
		return a.cuts(text.Prev(s, at), at), true
	case keys.Delete:
		return a.cuts(at, text.Next(s, at)), true
	case keys.Swap:
		if b, is := text.Swap(a.buf); is {
			return a.writes(b, false), true
		}
		return a, true
	case keys.Left:
		return a.moves(text.Prev(s, at)), true
	case keys.Right:
		return a.moves(text.Next(s, at)), true
	case keys.Home:
		return a.moves(0), true
	case keys.End:
		return a.moves(len(s)), true
	case keys.WordLeft:
		return a.moves(text.WordLeft(s, at)), true
	case keys.WordRight:
		return a.moves(text.WordRight(s, at)), true
	case keys.KillEnd:
		return a.killed(at, len(s), was), true
	case keys.KillWord:
		return a.killed(at, text.WordRight(s, at), was), true
	case keys.KillStart:
		return a.killed(0, at, was), true
	case keys.KillBack:
		return a.killed(text.WordLeft(s, at), at, was), true
	case keys.Yank:
		if len(a.kills) > 0 {
			a.turned = 0
			a, _ = a.yanked(a.buf, a.kills[0])
		}
		return a, true
	case keys.Pop:
		if was == "yanking" {
			return a.popped(), true
		}
		return a, true
	case keys.Undo:
		if len(a.ahead) > 0 {
			a.behind = slices.Concat([]text.Buf{a.buf}, a.behind)
			a.buf, a.ahead, a.open = a.ahead[0], a.ahead[1:], false
		}
		return a, true
	case keys.Redo:
		if len(a.behind) > 0 {
			a.ahead = slices.Concat([]text.Buf{a.buf}, a.ahead)
			a.buf, a.behind, a.open = a.behind[0], a.behind[1:], false
		}
		return a, true
	}
	return before, false
}

func (a asked) sets(s string) (asked, bool) {
	s = text.Make(s, 0).S
	return a.changes(text.Buf{S: s, At: len(s)})
}

func (a asked) adds(s string) (asked, bool) {
	before := a
	a.last, a.open = "", false
	b, no := text.Insert(text.Buf{S: a.buf.S, At: len(a.buf.S)}, s)
	if no != 0 || text.Plain(s) == "" {
		return a, false
	}
	a, _ = before.changes(b)
	return a, true
}

func (a asked) changes(b text.Buf) (asked, bool) {
	before := a.buf
	a.last = ""
	a = a.writes(text.Make(b.S, b.At), false)
	return a, a.buf != before
}

// A call is done to a line, and told of a second time; what both answer has to be the same.
type call struct {
	name string
	does func(l *Line) bool
	asks func(a asked) (asked, bool)
}

func keyCall(name string, k keys.Key) call {
	return call{name, func(l *Line) bool { return l.Key(k) }, func(a asked) (asked, bool) { return a.key(k) }}
}

func setCall(s string) call {
	return call{"set:" + s, func(l *Line) bool { l.Set(s); return false }, func(a asked) (asked, bool) { a, _ = a.sets(s); return a, false }}
}

func addCall(s string) call {
	return call{"add:" + s, func(l *Line) bool { return l.Add(s) }, func(a asked) (asked, bool) { return a.adds(s) }}
}

func changeCall(b text.Buf) call {
	return call{"change:" + b.S + " at " + strconv.Itoa(b.At), func(l *Line) bool { return l.Change(b) }, func(a asked) (asked, bool) { return a.changes(b) }}
}

// calls is each key that does something, some that don't, and the other calls.
func calls() []call {
	all := []call{
		keyCall("sign:a", keys.Key{Kind: keys.Sign, Text: "a"}),
		keyCall("sign:~", keys.Key{Kind: keys.Sign, Text: " "}),
		keyCall("sign:\u0301", keys.Key{Kind: keys.Sign, Text: "\u0301"}),
		keyCall("paste:b~-中", keys.Key{Kind: keys.Paste, Text: "b -中"}),
		keyCall("Enter", keys.Key{Kind: keys.Enter, Text: "e"}),
		setCall("x y"),
		setCall("\u0301z"),
		addCall("w"),
		addCall("\x01"),
		changeCall(text.Buf{S: "x y", At: 1}),
		{"Clear", func(l *Line) bool { l.Clear(); return false }, func(a asked) (asked, bool) { return asked{kills: a.kills, turned: a.turned}, false }},
	}
	for k := keys.Ignored; k <= keys.Escape; k++ {
		for name, kind := range kinds {
			if kind == k {
				all = append(all, keyCall(name, keys.Key{Kind: k, Text: "t"}))
			}
		}
	}
	return all
}

// agrees holds a line, and what it tells going back and forth, against the second telling.
func agrees(t *testing.T, l *Line, a asked, before string) {
	t.Helper()
	alike(t, l, a, before)
	if !text.Right(l.Buf()) {
		t.Fatalf("P7.4: %s: the buffer %v is not right", before, l.Buf())
	}
	c := l.Copy()
	for _, want := range a.ahead {
		if c.Key(keys.Key{Kind: keys.Undo}); c.Buf() != want {
			t.Fatalf("P7.2: %s: Undo is %v, not %v", before, c.Buf(), want)
		}
	}
	for range a.ahead {
		c.Key(keys.Key{Kind: keys.Redo})
	}
	if c.Buf() != a.buf {
		t.Fatalf("P7.4: %s: all undone, and redone, the buffer is %v, not %v", before, c.Buf(), a.buf)
	}
	for _, want := range a.behind {
		if c.Key(keys.Key{Kind: keys.Redo}); c.Buf() != want {
			t.Fatalf("P7.2: %s: Redo is %v, not %v", before, c.Buf(), want)
		}
	}
}

// alike holds what a line tells against the second telling.
func alike(t *testing.T, l *Line, a asked, before string) {
	t.Helper()
	back, forth := l.Undos()
	if l.Buf() != a.buf || !slices.Equal(l.Kills(), a.kills) || back != len(a.ahead) || forth != len(a.behind) {
		t.Fatalf("P7.2: %s: the line is %s, not %v %q %d %d", before, show(l), a.buf, a.kills, len(a.ahead), len(a.behind))
	}
}

// all does each row of so many calls to copies of a line, which has to stay as it was.
func all(t *testing.T, l *Line, a asked, before string, calls []call, more int) {
	t.Helper()
	for _, c := range calls {
		next := l.Copy()
		is := c.does(next)
		wants, also := c.asks(a)
		row := before + " " + c.name
		if is != also {
			t.Fatalf("P7.2, P7.3: %s tells %v", row, is)
		}
		if more > 1 {
			agrees(t, next, wants, row)
			all(t, next, wants, row, calls, more-1)
		} else {
			alike(t, next, wants, row)
		}
	}
	alike(t, l, a, before+", behind its copies' calls")
}

// begun does a row of calls, by their names, to a new line and its second telling.
func begun(t *testing.T, row string, calls []call) (*Line, asked) {
	t.Helper()
	l, a := New(), asked{}
	for name := range words(row) {
		k := slices.IndexFunc(calls, func(c call) bool { return strings.ReplaceAll(c.name, " ", "~") == name })
		if k < 0 {
			t.Fatal("no call ", name)
		}
		calls[k].does(l)
		a, _ = calls[k].asks(a)
		agrees(t, l, a, row)
	}
	return l, a
}

// TestAllRows holds all rows of calls against the second telling: on an empty line, at both ends of one, within it, with kills, with undos and redos, and behind a kill and a yank.
func TestAllRows(t *testing.T) {
	short, long := calls(), calls()
	for _, s := range []string{full[5:], full + "y"} {
		long = append(long, setCall(s), addCall(s), keyCall("sign:"+s, keys.Key{Kind: keys.Sign, Text: s}), keyCall("paste:"+s, keys.Key{Kind: keys.Paste, Text: s}))
	}
	l, a := begun(t, "", short)
	all(t, l, a, "", short, 4)
	for _, row := range []string{
		"", "set:x~y", "set:x~y Home", "set:x~y Left", "set:x~y Left Left paste:b~-中 WordLeft", "set:\u0301z Home",
		"set:x~y KillBack set:x~y Left Delete KillStart Left", "set:x~y KillBack sign:a Home KillEnd paste:b~-中 KillStart",
		"set:x~y KillBack sign:a Home KillEnd paste:b~-中 Swap Yank", "set:x~y KillBack sign:a Home KillEnd paste:b~-中 Yank Pop",
		"set:x~y add:w sign:a sign:~ sign:a Undo Undo", "sign:a sign:~ sign:a sign:a",
		"set:\u0301z KillBack sign:a Left Yank", "set:x~y KillWord",
	} {
		l, a := begun(t, row, long)
		all(t, l, a, row, long, 2)
		l, a = begun(t, row, short)
		all(t, l, a, row, short, 3)
	}
}

// TestLongRows does long rows of calls, of texts of all kinds, near the most that a line, its kills and its undos hold.
func TestLongRows(t *testing.T) {
	all := calls()
	for _, s := range []string{"word", " two words ", "e\u0301", "\u0301", "中文", "\xff\xc3", "\x1b[A\t", "-", "", strings.Repeat("long ", 50), full} {
		for _, kind := range []int{keys.Sign, keys.Paste} {
			all = append(all, keyCall(strconv.Itoa(kind)+":"+s, keys.Key{Kind: kind, Text: s}))
		}
		all = append(all, setCall(s), addCall(s), changeCall(text.Buf{S: s, At: 2}), changeCall(text.Buf{S: s + "x", At: -1}))
	}
	for row := range 60 {
		// Each row goes on from its own number, by multiplying: so it is the same row always.
		at := uint32(row)
		l, a := New(), asked{}
		before := "row " + strconv.Itoa(row)
		for range 400 {
			at = at*1664525 + 1013904223
			c := all[int(at>>16)%len(all)]
			is := c.does(l)
			next, also := c.asks(a)
			if is != also {
				t.Fatalf("P7.2, P7.3: %s: %.40q tells %v", before, c.name, is)
			}
			a = next
			agrees(t, l, a, before)
		}
	}
}

// TestCopy changes a copy, then the first line, by two calls, and looks at the other one by one more.
func TestCopy(t *testing.T) {
	all := calls()
	looks := func(what string, l, other *Line) {
		t.Helper()
		for _, end := range all {
			one, two := l.Copy(), other.Copy()
			end.does(one)
			end.does(two)
			if show(one) != show(two) {
				t.Fatalf("P7.1: %s, then %s: %s, not %s", what, end.name, show(one), show(two))
			}
		}
	}
	for _, row := range []string{"", "sign:a", "set:x~y set:\u0301z Undo", "set:x~y KillBack sign:a KillBack set:x~y Yank", "set:x~y KillBack sign:a KillBack Yank Pop", "set:x~y KillWord KillBack"} {
		fresh := func() *Line {
			l, _ := begun(t, row, all)
			return l
		}
		for _, one := range all {
			for _, two := range all {
				what := row + " | " + one.name + ", " + two.name
				first := fresh()
				second := first.Copy()
				one.does(second)
				two.does(second)
				looks("a line whose copy did "+what, first, fresh())
				one.does(first)
				two.does(first)
				looks("a line and its copy, both of which did "+what, first, second)

				first = fresh()
				second = first.Copy()
				one.does(first)
				two.does(first)
				looks("a copy whose first line did "+what, second, fresh())
			}
		}
	}
}

// pieces is texts of up to so many pieces.
func pieces(most int) []string {
	found := []string{""}
	last := found
	for range most {
		var longer []string
		for _, s := range last {
			for _, piece := range []string{"a", "b7", " ", "-", "中", "e\u0301"} {
				longer = append(longer, s+piece)
			}
		}
		found = append(found, longer...)
		last = longer
	}
	return found
}

// TestKilledAndYanked: what was killed, in one or in more, yanked at once, is as it was; there is no seam with a sign of width 0.
func TestKilledAndYanked(t *testing.T) {
	names := []string{"KillEnd", "KillWord", "KillStart", "KillBack"}
	rows := slices.Clone(names)
	for _, one := range names {
		for _, two := range names {
			rows = append(rows, one+" "+two)
		}
	}
	for _, s := range pieces(4) {
		for _, at := range width.Bounds(s) {
			for _, row := range rows {
				l := New()
				l.Change(text.Buf{S: s, At: at})
				play(l, row)
				gone := len(s) - len(l.Buf().S)
				if gone == 0 {
					continue
				}
				if k := l.Kills(); len(k) != 1 || len(k[0]) != gone {
					t.Fatalf("P7.2: of %q, the cursor at %d, %s kills %q", s, at, row, k)
				}
				if play(l, "Yank"); l.Buf().S != s {
					t.Fatalf("P7.4: %q, the cursor at %d, killed by %s, and yanked, is %q", s, at, row, l.Buf().S)
				}
				if play(l, "Undo Redo"); l.Buf().S != s {
					t.Fatalf("P7.4: %q, yanked, undone and redone, is %q", s, l.Buf().S)
				}
			}
		}
	}
}

// TestRightAlways: whatever bytes come as texts, the buffer is a right line.
func TestRightAlways(t *testing.T) {
	bytes := []string{"a", " ", "\u0301", "\xcc", "\x81", "\xff", "\x1b", "\n", "\u0085", "\U0010FFFF", "\xed\xa0\x80", "中", full[:599]}
	for _, one := range bytes {
		for _, two := range bytes {
			for _, row := range []string{"", "Home", "Left", "Swap", "KillBack Yank Yank", "Home Delete", "Backspace Undo"} {
				l := New()
				for _, s := range []string{one, two, one + two} {
					for _, does := range []func(){
						func() { l.Key(keys.Key{Kind: keys.Sign, Text: s}) },
						func() { l.Key(keys.Key{Kind: keys.Paste, Text: s}) },
						func() { l.Add(s) },
						func() { l.Change(text.Buf{S: s, At: len(s) / 2}) },
						func() { l.Set(s) },
					} {
						does()
						play(l, row)
						if b := l.Buf(); !text.Right(b) {
							t.Fatalf("P7.4: %q, %q, %s: the buffer %.40q, the cursor at %d, is not right", one, two, row, b.S, b.At)
						}
						for _, k := range l.Kills() {
							if k != sign.Clean([]byte(k)) {
								t.Fatalf("P7.2: %q, %q, %s: the kill %.40q is not clean", one, two, row, k)
							}
						}
					}
				}
			}
		}
	}
}
