package trie

import (
	"fmt"
	"slices"
	"strings"
	"testing"
)

// What is named "asked" tells what the chapter asks a second time and by other means: a row of pairs, which is gone through whole whenever something is asked; nodes are texts that keys are held against, two by two.

type pair struct {
	key string
	v   int
}

func (p pair) String() string { return fmt.Sprintf("%+q=%d", p.key, p.v) }

type asked []pair

func (a asked) find(key string) int {
	for k, p := range a {
		if p.key == key {
			return k
		}
	}
	return -1
}

func (a *asked) put(key string, v int) bool {
	k := a.find(key)
	if k < 0 {
		*a = append(slices.Clip(*a), pair{key, v})
		return true
	}
	*a = slices.Clone(*a)
	(*a)[k].v = v
	return false
}

func (a *asked) drop(key string) bool {
	k := a.find(key)
	if k >= 0 {
		*a = slices.Concat((*a)[:k], (*a)[k+1:])
	}
	return k >= 0
}

// askedAhead holds two texts against each other by the numbers that their bytes are; where one ends, there is a number below all bytes.
func askedAhead(x, y string) bool {
	number := func(s string, at int) int {
		if at < len(s) {
			return int(s[at])
		}
		return -1
	}
	for at := range max(len(x), len(y)) {
		if number(x, at) != number(y, at) {
			return number(x, at) < number(y, at)
		}
	}
	return false
}

func askedBegins(s, prefix string) bool {
	return len(s) >= len(prefix) && s[:len(prefix)] == prefix
}

// rising puts each pair ahead of the first one that is not ahead of it.
func (a asked) rising() asked {
	var l asked
	for _, p := range a {
		at := 0
		for at < len(l) && askedAhead(l[at].key, p.key) {
			at++
		}
		l = slices.Insert(l, at, p)
	}
	return l
}

func (a asked) under(prefix string) []pair {
	var l []pair
	for _, p := range a {
		if askedBegins(p.key, prefix) {
			l = append(l, p)
		}
	}
	return l
}

func (a asked) longest(s string) (string, bool) {
	for size := len(s); size >= 0; size-- {
		if a.find(s[:size]) >= 0 {
			return s[:size], true
		}
	}
	return "", false
}

// nodes is the texts that are nodes.
func (a asked) nodes() []string {
	l := []string{""}
	add := func(text string) {
		if !slices.Contains(l, text) {
			l = append(l, text)
		}
	}
	for _, p := range a {
		add(p.key)
		for _, q := range a {
			for at := range min(len(p.key), len(q.key)) {
				if p.key[:at] == q.key[:at] && p.key[at] != q.key[at] {
					add(p.key[:at])
				}
			}
		}
	}
	return l
}

// made is a trie of some keys, put in this order, for each of which its number stands, and the same told a second time.
func made(t *testing.T, keys ...string) (*Trie[int], asked) {
	t.Helper()
	l, a := New[int](), asked{}
	for k, key := range keys {
		puts(t, "made", l, &a, key, k)
	}
	return l, a
}

func puts(t *testing.T, what string, l *Trie[int], a *asked, key string, v int) {
	t.Helper()
	if isNew, want := l.Put(key, v), a.put(key, v); isNew != want {
		t.Fatalf("P13.1: %s: Put(%+q) is %v", what, key, isNew)
	}
}

func drops(t *testing.T, what string, l *Trie[int], a *asked, key string) {
	t.Helper()
	if was, want := l.Drop(key), a.drop(key); was != want {
		t.Fatalf("P13.1: %s: Drop(%+q) is %v", what, key, was)
	}
}

// told is all that a walk tells.
func told[V any](walk func(yield func(key string, v V) bool)) (keys []string, vs []V) {
	for key, v := range walk {
		keys, vs = append(keys, key), append(vs, v)
	}
	return keys, vs
}

func pairs(walk func(yield func(key string, v int) bool)) []pair {
	var l []pair
	for key, v := range walk {
		l = append(l, pair{key, v})
	}
	return l
}

// holds fails where a trie is not as it is told, or does not tell just so again. It is asked of its keys, and of more texts.
func holds(t *testing.T, what string, l *Trie[int], a asked, more ...string) {
	t.Helper()
	a = a.rising()
	nodes := len(a.nodes())
	for range 2 {
		if n := l.Len(); n != len(a) {
			t.Fatalf("P13.1: %s: Len is %d, not %d", what, n, len(a))
		}
		if n := l.Nodes(); n != nodes || n > 2*len(a)+1 {
			t.Fatalf("P13.1, P13.3: %s: Nodes of %d keys is %d, not %d", what, len(a), n, nodes)
		}
		if all := pairs(l.Under("")); !slices.Equal(all, a.under("")) {
			t.Fatalf("P13.2: %s: Under of nothing is %v, not %v", what, all, a)
		}
		for _, p := range a {
			if v, is := l.Get(p.key); v != p.v || !is {
				t.Fatalf("P13.1: %s: Get(%+q) is %d %v, not %d", what, p.key, v, is, p.v)
			}
		}
		for _, s := range more {
			answers(t, what, l, a, s)
		}
	}
}

// answers fails where a trie tells of a text otherwise than it is told; a is rising.
func answers(t *testing.T, what string, l *Trie[int], a asked, s string) {
	t.Helper()
	var want int
	k := a.find(s)
	if k >= 0 {
		want = a[k].v
	}
	if v, is := l.Get(s); v != want || is != (k >= 0) {
		t.Fatalf("P13.1: %s: Get(%+q) is %d %v, not %d %v", what, s, v, is, want, k >= 0)
	}
	under := a.under(s)
	if l := pairs(l.Under(s)); !slices.Equal(l, under) {
		t.Fatalf("P13.2: %s: Under(%+q) is %v, not %v", what, s, l, under)
	}
	if n := l.Many(s); n != len(under) {
		t.Fatalf("P13.2: %s: Many(%+q) is %d, not %d", what, s, n, len(under))
	}
	key, is := l.Longest(s)
	if long, has := a.longest(s); key != long || is != has {
		t.Fatalf("P13.2: %s: Longest(%+q) is %+q %v, not %+q %v", what, s, key, is, long, has)
	}
}

// around is texts with which some begin, and such as begin with them or part from them.
func around(texts ...string) []string {
	l := []string{"", "\x00", "\xff"}
	for _, s := range texts {
		for at := range len(s) {
			l = append(l, s[:at], s[:at]+string([]byte{s[at] + 1}), s[:at]+string([]byte{s[at] ^ 0x80}))
		}
		l = append(l, s, s+"\x00", s+"a", s+"\xff", s+s)
	}
	slices.Sort(l)
	return slices.Compact(l)
}

func TestExample(t *testing.T) {
	l, a := made(t, "git", "gitk", "go")
	if n := l.Nodes(); n != 5 {
		t.Errorf("P13.1: Nodes of git, gitk, go is %d", n)
	}
	if keys, vs := told(l.Under("g")); !slices.Equal(keys, []string{"git", "gitk", "go"}) || !slices.Equal(vs, []int{0, 1, 2}) {
		t.Errorf("P13.2: Under(g) of git, gitk, go is %+q %v", keys, vs)
	}
	holds(t, "git, gitk, go", l, a, around("git", "gitk", "go")...)
}

func TestNew(t *testing.T) {
	l, a := made(t)
	holds(t, "New", l, a, around("", "a", "git", "\x00", "\x80")...)
	for _, s := range []string{"", "a", "\x00"} {
		drops(t, "New", l, &a, s)
		holds(t, "Drop of a new one", l, a, around("a", s)...)
		if l.Under(s) == nil {
			t.Errorf("R7: Under(%+q) is nil", s)
		}
	}
	holds(t, "Copy of a new one", l.Copy(), a, around("a")...)
}

// TestNodes counts nodes by hand.
func TestNodes(t *testing.T) {
	for _, row := range []struct {
		what string
		keys []string
		want int
	}{
		{"no keys", nil, 1},
		{"the root is a key", []string{""}, 1},
		{"one key", []string{"a"}, 2},
		{"one long key", []string{"git commit"}, 2},
		{"the root and one more", []string{"", "git"}, 2},
		{"parting at the first byte", []string{"a", "b"}, 3},
		{"parting at the first byte, at the root that is a key", []string{"a", "b", ""}, 3},
		{"long ones parting at the first byte", []string{"abc", "bbc", "cbc"}, 4},
		{"parting at the last byte", []string{"gia", "gib"}, 4},
		{"three, parting at the last byte", []string{"gia", "gib", "gic"}, 5},
		{"parting in the midst", []string{"gita", "goa"}, 4},
		{"a beginning", []string{"git", "gitk"}, 3},
		{"a beginning, put last", []string{"gitk", "git"}, 3},
		{"beginnings of each other", []string{"a", "ab", "abc", "abcd"}, 5},
		{"a key where others part", []string{"gita", "gitb", "git"}, 4},
		{"two partings", []string{"aaa", "aab", "abb"}, 6},
		{"partings on all sides", []string{"aa", "ab", "ba", "bb"}, 7},
		{"most nodes of four", []string{"aaaa", "aaab", "aab", "ab"}, 8},
		{"within a sign", []string{"\u00e9", "\u00e8"}, 4},
		{"within a sign, and ahead of it", []string{"\u00e9", "\u00e8", "\xc3"}, 4},
	} {
		for range len(row.keys) + 1 {
			l, a := made(t, row.keys...)
			if n := l.Nodes(); n != row.want {
				t.Errorf("P13.1: %s: Nodes of %+q is %d, not %d", row.what, row.keys, n, row.want)
			}
			holds(t, row.what, l, a, around(row.keys...)...)
			if len(row.keys) > 0 {
				row.keys = append(slices.Clone(row.keys[1:]), row.keys[0])
			}
		}
	}
}

// TestPutAgain: a key is new once, and has what was put last.
func TestPutAgain(t *testing.T) {
	for _, key := range []string{"", "g", "git", "gitk", "gi", "go", "x", "\x00", "\xff"} {
		l, a := made(t, "git", "gitk", "go")
		for v := range 4 {
			puts(t, "again", l, &a, key, 10+v)
			holds(t, "a key put again", l, a, around(key, "gitk")...)
		}
		if l.Put(key, 0) {
			t.Errorf("P13.1: Put(%+q) of a zero value, which is no new key, is true", key)
		}
		if v, is := l.Get(key); v != 0 || !is {
			t.Errorf("P13.1: Get(%+q), for which a zero value stands, is %d %v", key, v, is)
		}
		if !l.Drop(key) || l.Drop(key) || !l.Put(key, 7) {
			t.Errorf("P13.1: %+q, dropped, is a key", key)
		}
	}
}

// TestDrop counts by hand the nodes that a Drop leaves.
func TestDrop(t *testing.T) {
	for _, row := range []struct {
		what string
		keys []string
		key  string
		was  bool
		want int
	}{
		{"no keys, the empty one", nil, "", false, 1},
		{"no keys", nil, "a", false, 1},
		{"no key at all", []string{"git"}, "x", false, 2},
		{"no key, within an edge", []string{"git"}, "gi", false, 2},
		{"no key, behind one", []string{"git"}, "gitk", false, 2},
		{"no key, parting within an edge", []string{"git"}, "got", false, 2},
		{"no key, parting at an edge's last byte", []string{"git"}, "gif", false, 2},
		{"no key, but the root", []string{"git"}, "", false, 2},
		{"no key, but the root, of which there are two edges", []string{"a", "b"}, "", false, 3},
		{"no key, but a node", []string{"git", "go"}, "g", false, 4},
		{"no key, but a node far down", []string{"git", "go", "gita", "gitb", "gitcd", "gitce"}, "gitc", false, 9},
		{"the only one", []string{"git"}, "git", true, 1},
		{"the only one, empty", []string{""}, "", true, 1},
		{"the empty one, with one edge below", []string{"", "a"}, "", true, 2},
		{"the empty one, with two edges below", []string{"", "a", "b"}, "", true, 3},
		{"no edge below, the node above is the root, with no edge left", []string{"", "a"}, "a", true, 1},
		{"no edge below, the node above is the root, with one edge left", []string{"a", "b"}, "a", true, 2},
		{"no edge below, the node above is the root and a key, with one edge left", []string{"", "a", "b"}, "b", true, 2},
		{"no edge below, the node above is a key, with no edge left", []string{"git", "gitk"}, "gitk", true, 2},
		{"no edge below, the node above is a key, with one edge left", []string{"git", "gita", "gitb"}, "gita", true, 3},
		{"no edge below, the node above is no key, with one edge left", []string{"git", "go"}, "go", true, 2},
		{"no edge below, the node above is no key, with one edge left, of a node that is no key", []string{"gita", "gitb", "go"}, "go", true, 4},
		{"no edge below, the node above is no key, with two edges left", []string{"ga", "gb", "gc"}, "gb", true, 4},
		{"one edge below", []string{"git", "gitk"}, "git", true, 2},
		{"one edge below, and nodes behind it", []string{"g", "git", "gitk", "gits"}, "g", true, 4},
		{"one edge below, of a node that is no key", []string{"g", "gita", "gitb"}, "g", true, 4},
		{"one edge below, the node above is no key, with two edges", []string{"git", "gitk", "go"}, "git", true, 4},
		{"two edges below", []string{"git", "gita", "gitb"}, "git", true, 4},
		{"three edges below", []string{"git", "gita", "gitb", "gitc"}, "git", true, 5},
		{"256 edges below", append(bytes256("a"), "a"), "a", true, 258},
		{"one of 256 edges", append(bytes256("a"), "a"), "a\x80", true, 257},
	} {
		l, a := made(t, row.keys...)
		for range 2 {
			before := l.Copy()
			if was := l.Drop(row.key); was != row.was {
				t.Errorf("P13.1: %s: Drop(%+q) is %v", row.what, row.key, was)
			}
			a.drop(row.key)
			if n := l.Nodes(); n != row.want {
				t.Errorf("P13.3: %s: behind Drop(%+q) Nodes is %d, not %d", row.what, row.key, n, row.want)
			}
			holds(t, row.what, l, a, around(row.key, "gitk", "go")...)
			if n := before.Len() - l.Len(); row.was != (n == 1) {
				t.Errorf("P13.1: %s: behind Drop(%+q) there are %d keys less", row.what, row.key, n)
			}
			row.was = false
		}
	}
}

// bytes256 is all texts of one byte behind another text.
func bytes256(ahead string) []string {
	var l []string
	for b := range 256 {
		l = append(l, ahead+string([]byte{byte(b)}))
	}
	return l
}

func TestEmptyKey(t *testing.T) {
	for _, others := range [][]string{nil, {"a"}, {"a", "b"}, {"ab", "ac"}, {"\x00"}, {"\xff", "\x00\x00"}} {
		l, a := made(t, others...)
		nodes := l.Nodes()
		for v := range 3 {
			puts(t, "the empty key", l, &a, "", v)
			holds(t, "the empty key", l, a, around("ab")...)
		}
		if n := l.Nodes(); n != nodes {
			t.Errorf("P13.1: the root, a key beside %+q, makes of %d nodes %d", others, nodes, n)
		}
		if key, is := l.Longest("zz"); key != "" || !is {
			t.Errorf("P13.2: Longest(zz), where the empty key is one, is %+q %v", key, is)
		}
		for range 2 {
			drops(t, "the empty key", l, &a, "")
			holds(t, "the empty key, dropped", l, a, around("ab")...)
		}
		if key, is := l.Longest("zz"); key != "" || is {
			t.Errorf("P13.2: Longest(zz), where the empty key is none any more, is %+q %v", key, is)
		}
	}
}

// TestBytes: keys rise by byte, whatever signs these are, or are none.
func TestBytes(t *testing.T) {
	for _, ahead := range []string{"", "a", "\xff", "\u00e9", "\xe4\xb8"} {
		keys := bytes256(ahead)
		l, a := made(t, keys...)
		holds(t, "all bytes", l, a, around(ahead, ahead+"\x7f", ahead+"\x80")...)
		if rising, vs := told(l.Under(ahead)); !slices.Equal(rising, keys) || vs[0] != 0 || vs[127] != 127 || vs[128] != 128 || vs[255] != 255 {
			t.Errorf("P13.2: behind %+q bytes don't rise: %+q", ahead, rising)
		}
		slices.Reverse(keys)
		if falling, a := made(t, keys...); falling.Nodes() != l.Nodes() {
			t.Error("P13.3: keys put falling make other nodes")
		} else {
			holds(t, "all bytes, put falling", falling, a, around(ahead+"\x80")...)
		}
		for k := 0; k < len(keys); k += 3 {
			drops(t, "bytes", l, &a, keys[k])
		}
		holds(t, "two thirds of all bytes", l, a, around(ahead, ahead+"\x7f", ahead+"\x80")...)
	}
	// By sign, or by numbers that have a sign of their own, these would stand otherwise.
	keys := []string{"", "\x00", "\x00\x00", "\x7f", "\x80", "\u00e9", "\uff61", "\U0001f600", "\xff", "\xff\x00", "\xff\xff"}
	l, _ := made(t, "\xff\xff", "\uff61", "\x80", "", "\x00\x00", "\u00e9", "\xff", "\x7f", "\U0001f600", "\x00", "\xff\x00")
	if rising, _ := told(l.Under("")); !slices.Equal(rising, keys) {
		t.Errorf("P13.2: all keys are %+q", rising)
	}
}

// TestPrefix: prefixes that end at nodes, within edges, and beside them.
func TestPrefix(t *testing.T) {
	l, _ := made(t, "git commit", "git", "git checkout", "go", "ls -l", "g", "git commit -a")
	all := "g,git,git checkout,git commit,git commit -a,go,ls -l"
	for _, row := range []struct{ prefix, want string }{
		{"", all}, {"g", "g,git,git checkout,git commit,git commit -a,go"}, {"gi", "git,git checkout,git commit,git commit -a"}, {"git", "git,git checkout,git commit,git commit -a"}, {"git ", "git checkout,git commit,git commit -a"}, {"git c", "git checkout,git commit,git commit -a"}, {"git ch", "git checkout"}, {"git checkou", "git checkout"}, {"git checkout", "git checkout"}, {"git checkout ", ""}, {"git checkouT", ""}, {"git cx", ""}, {"git x", ""}, {"git co", "git commit,git commit -a"}, {"git commit", "git commit,git commit -a"}, {"git commit ", "git commit -a"}, {"git commit -", "git commit -a"}, {"git commit -a", "git commit -a"}, {"git commit -ab", ""}, {"git commit -b", ""}, {"gg", ""}, {"gx", ""}, {"g\x00", ""}, {"go", "go"}, {"goo", ""}, {"l", "ls -l"}, {"ls -", "ls -l"}, {"lx", ""}, {"x", ""}, {"G", ""}, {"\x00", ""}, {"\xff", ""},
	} {
		keys, _ := told(l.Under(row.prefix))
		if s := strings.Join(keys, ","); s != row.want {
			t.Errorf("P13.2: Under(%q) is %q, not %q", row.prefix, s, row.want)
		}
		if n := l.Many(row.prefix); n != len(keys) {
			t.Errorf("P13.2: Many(%q) is %d, not %d", row.prefix, n, len(keys))
		}
	}
}

func TestLongest(t *testing.T) {
	l, _ := made(t, "git", "git commit", "go", "gone", "\xff\x00")
	for _, row := range []struct {
		s, want string
		is      bool
	}{
		{"", "", false}, {"g", "", false}, {"gi", "", false}, {"git", "git", true}, {"gitk", "git", true}, {"git ", "git", true}, {"git commi", "git", true}, {"git commix", "git", true}, {"git commit", "git commit", true}, {"git commit -a", "git commit", true}, {"go", "go", true}, {"gon", "go", true}, {"gone", "gone", true}, {"goner", "gone", true}, {"gons", "go", true}, {"x", "", false}, {" git", "", false}, {"\xff", "", false}, {"\xff\x00", "\xff\x00", true}, {"\xff\x00\xff", "\xff\x00", true}, {"\xff\x01", "", false},
	} {
		if key, is := l.Longest(row.s); key != row.want || is != row.is {
			t.Errorf("P13.2: Longest(%q) is %q %v, not %q %v", row.s, key, is, row.want, row.is)
		}
	}
	l.Put("", 0)
	for _, row := range []struct{ s, want string }{{"", ""}, {"x", ""}, {"g", ""}, {"gitk", "git"}} {
		if key, is := l.Longest(row.s); key != row.want || !is {
			t.Errorf("P13.2: Longest(%q), where the empty key is one, is %q %v", row.s, key, is)
		}
	}
}

// TestUnderStops: a walk that is told false tells no more, wherever it is.
func TestUnderStops(t *testing.T) {
	l, a := made(t, "", "a", "ab", "abc", "abd", "b", "ca", "cb", "d")
	for _, prefix := range around("", "a", "ab", "abc", "c", "d", "x") {
		want := a.rising().under(prefix)
		for stop := 1; stop <= len(want)+1; stop++ {
			var got []pair
			walk := l.Under(prefix)
			for range 2 {
				got = nil
				walk(func(key string, v int) bool {
					got = append(got, pair{key, v})
					return len(got) != stop
				})
				if !slices.Equal(got, want[:min(stop, len(want))]) {
					t.Errorf("P13.2: Under(%+q), told false at key %d, is %v", prefix, stop, got)
				}
			}
		}
	}
	holds(t, "walks that were told false", l, a, around("abc")...)
}

// TestUnderWithin goes through a trie within walks through it, those of the same call and of others.
func TestUnderWithin(t *testing.T) {
	l, a := made(t, "a", "abcd", "abce", "b", "bcd", "")
	a = a.rising()
	walk := l.Under("")
	outer := 0
	for key, v := range walk {
		if key != a[outer].key || v != a[outer].v {
			t.Errorf("P13.2: a walk with others within it tells %+q %d", key, v)
		}
		outer++
		for range 2 {
			if l := pairs(walk); !slices.Equal(l, a) {
				t.Errorf("P13.2: a walk within itself is %v", l)
			}
			if l := pairs(l.Under(key)); !slices.Equal(l, a.under(key)) {
				t.Errorf("P13.2: a walk of Under(%+q) within another one is %v", key, l)
			}
		}
		for within := range walk {
			if within == key {
				break
			}
		}
	}
	if outer != len(a) {
		t.Errorf("P13.2: a walk with others within it tells %d keys", outer)
	}
}

// TestUnderOfChanged: a walk goes through what there is when it begins, and ends, whatever is put or dropped meanwhile.
func TestUnderOfChanged(t *testing.T) {
	keys := []string{"", "a", "ab", "abc", "b"}
	for name, change := range map[string]func(l *Trie[int], a *asked, key string){
		"longer keys": func(l *Trie[int], a *asked, key string) { l.Put(key+"a", 9); a.put(key+"a", 9) },
		"dropped":     func(l *Trie[int], a *asked, key string) { l.Drop(key); a.drop(key) },
		"all dropped": func(l *Trie[int], a *asked, key string) {
			for _, key := range keys {
				l.Drop(key)
				a.drop(key)
			}
		},
		"other values": func(l *Trie[int], a *asked, key string) {
			for _, key := range keys {
				l.Put(key, 50)
				a.put(key, 50)
			}
		},
		"edges parted": func(l *Trie[int], a *asked, key string) { l.Put("abx", 9); a.put("abx", 9) },
	} {
		l, a := made(t, keys...)
		before := a.rising()
		var got []pair
		walk := l.Under("")
		for key, v := range walk {
			got = append(got, pair{key, v})
			change(l, &a, key)
		}
		if !slices.Equal(got, before) {
			t.Errorf("P13.2: %s meanwhile: a walk tells %v", name, got)
		}
		holds(t, name+" meanwhile", l, a, around(keys...)...)
		if l := pairs(walk); !slices.Equal(l, a.rising()) {
			t.Errorf("P13.2: %s: the walk behind it tells %v", name, l)
		}
	}
}

// TestCopy: what is done to either one is not so in the other one.
func TestCopy(t *testing.T) {
	keys := []string{"", "a", "ab", "abc", "abd", "b", "ca", "cb"}
	texts := around("abc", "abd", "cb", "x")
	for _, key := range append(texts, keys...) {
		for _, of := range []bool{false, true} {
			for _, drop := range []bool{false, true} {
				one, a := made(t, keys...)
				two, b := one.Copy(), slices.Clone(a)
				holds(t, "a copy", two, b, texts...)
				if of {
					one, two = two, one
				}
				if drop {
					drops(t, "a copy", one, &a, key)
				} else {
					puts(t, "a copy", one, &a, key, 99)
				}
				holds(t, "a copy, changed", one, a, texts...)
				holds(t, "what is beside a changed copy", two, b, texts...)
				puts(t, "beside", two, &b, key+"z", 98)
				drops(t, "beside", two, &b, "ab")
				holds(t, "what is beside a changed copy, changed", two, b, texts...)
				holds(t, "a copy, behind a change beside it", one, a, texts...)
			}
		}
	}
}

// TestCopies: copies of copies, each with one key more than that of which it is one.
func TestCopies(t *testing.T) {
	var tries []*Trie[int]
	var wants []asked
	l, a := made(t)
	for k := range 40 {
		l = l.Copy()
		puts(t, "copies", l, &a, fmt.Sprintf("%b", k*7%40), k)
		tries, wants = append(tries, l), append(wants, slices.Clone(a))
	}
	for k := range tries {
		holds(t, "a copy of many", tries[k], wants[k], around("101", "1000")...)
		drops(t, "a copy of many", tries[k], &wants[k], wants[k][0].key)
	}
	for k := range tries {
		holds(t, "a copy of many, dropped from", tries[k], wants[k], around("101", "1000")...)
	}
}

// TestShared: what stands for a key is the same in copies, and in all that is told.
func TestShared(t *testing.T) {
	l := New[*int]()
	one := new(int)
	if !l.Put("a", one) || !l.Put("b", nil) || !l.Put("ab", one) {
		t.Error("P13.1: Put of a new key is false")
	}
	c := l.Copy()
	*one = 7
	for _, l := range []*Trie[*int]{l, c} {
		if v, is := l.Get("a"); v != one || !is || *v != 7 {
			t.Errorf("P13.1: Get of what is shared is %v %v", v, is)
		}
		if v, is := l.Get("b"); v != nil || !is {
			t.Errorf("P13.1: Get of a key for which nil stands is %v %v", v, is)
		}
		if v, is := l.Get("c"); v != nil || is {
			t.Errorf("P13.1: Get of what is no key is %v %v", v, is)
		}
		if keys, vs := told(l.Under("")); !slices.Equal(keys, []string{"a", "ab", "b"}) || !slices.Equal(vs, []*int{one, one, nil}) {
			t.Errorf("P13.2: Under of what is shared is %+q %v", keys, vs)
		}
	}
}

// TestZero: with false comes a zero value, of any type, also where something stood once.
func TestZero(t *testing.T) {
	zero(t, 7)
	zero(t, "seven")
	zero(t, [3]int{1, 2, 3})
	zero(t, struct{ s string }{"seven"})
	zero(t, new(int))
	zero(t, error(fmt.Errorf("seven")))
	zero(t, any(7))
}

func zero[V comparable](t *testing.T, v V) {
	t.Helper()
	var none V
	l := New[V]()
	for _, key := range []string{"", "git", "gitk", "go"} {
		l.Put(key, v)
	}
	for _, key := range []string{"", "git", "gitk", "go"} {
		if got, is := l.Get(key); got != v || !is {
			t.Errorf("P13.1: Get(%q) is %v %v", key, got, is)
		}
	}
	for _, key := range []string{"g", "gi", "x", "gitkk", "gits"} {
		if got, is := l.Get(key); got != none || is {
			t.Errorf("P13.1: Get(%q), which is no key, is %v %v", key, got, is)
		}
	}
	for _, key := range []string{"git", "", "gitk", "go"} {
		l.Drop(key)
		if got, is := l.Get(key); got != none || is {
			t.Errorf("P13.1: Get(%q), which is no key any more, is %v %v", key, got, is)
		}
	}
	if l.Len() != 0 || l.Nodes() != 1 {
		t.Errorf("P13.3: all dropped, Len is %d, and Nodes %d", l.Len(), l.Nodes())
	}
}

// TestValuesOfManyKinds: what stands for a key needs not to be such as can be compared.
func TestValuesOfManyKinds(t *testing.T) {
	lists := New[[]int]()
	lists.Put("a", []int{1, 2})
	lists.Copy().Put("a", nil)
	if v, is := lists.Get("a"); !is || !slices.Equal(v, []int{1, 2}) {
		t.Errorf("P13.1: Get of a list is %v %v", v, is)
	}
	if v, is := lists.Get("b"); is || v != nil {
		t.Errorf("P13.1: Get of no list is %v %v", v, is)
	}
	functions := New[func() int]()
	functions.Put("", func() int { return 5 })
	if f, is := functions.Get(""); !is || f() != 5 {
		t.Error("P13.1: Get of a function is another one")
	}
	if f, is := functions.Get("x"); is || f != nil {
		t.Error("P13.1: Get of no function is one")
	}
	nothing := New[struct{}]()
	if !nothing.Put("a", struct{}{}) || nothing.Put("a", struct{}{}) || nothing.Len() != 1 {
		t.Error("P13.1: of keys alone there are others")
	}
	tries := New[*Trie[int]]()
	tries.Put("a", New[int]())
	if l, is := tries.Get("a"); !is || !l.Put("a", 1) || l.Len() != 1 {
		t.Error("P13.1: Get of a trie is another one")
	}
}

// TestKeysHandedIn: a key is one for as long as it is not dropped, whatever it was cut from.
func TestKeysHandedIn(t *testing.T) {
	l, a := made(t)
	line := []byte("git commit -a")
	for n := range line {
		puts(t, "cut", l, &a, string(line[:n]), n)
		for k := range line {
			line[k] ^= byte(n)
		}
	}
	holds(t, "keys that were cut from what is written into", l, a, around("git commit")...)
}

// TestAllRows does all rows of up to four calls, each on a copy, from some beginnings.
func TestAllRows(t *testing.T) {
	keys := []string{"", "a", "b", "ab", "abc", "abd", "\xff", "ab\x80"}
	texts := around("abc", "ab\x80", "b")
	for _, first := range [][]string{nil, {"", "a", "ab", "abc"}, {"abcx", "abdx", "\xff\xff", "ax"}} {
		l, a := made(t, first...)
		rows(t, l, a, keys, texts, "", 4)
	}
}

func rows(t *testing.T, l *Trie[int], a asked, keys, texts []string, before string, more int) {
	holds(t, before, l, a, texts...)
	if more == 0 {
		return
	}
	for k, key := range keys {
		put, putAsked := l.Copy(), a
		what := fmt.Sprintf("%s Put %+q", before, key)
		puts(t, what, put, &putAsked, key, 100*more+k)
		rows(t, put, putAsked, keys, texts, what, more-1)
		drop, dropAsked := l.Copy(), a
		what = fmt.Sprintf("%s Drop %+q", before, key)
		drops(t, what, drop, &dropAsked, key)
		rows(t, drop, dropAsked, keys, texts, what, more-1)
	}
	holds(t, before+", behind its copies' calls", l, a)
}

// TestAllSets makes all sets of some keys, from below and from above, and puts into each what it has not, and drops it.
func TestAllSets(t *testing.T) {
	keys := []string{"", "g", "gi", "git", "gitk", "go", "gp\x00", "gp\xff", "h\x80x", "h\x80y"}
	texts := around(keys...)
	for set := range 1 << len(keys) {
		below, a := made(t)
		above, b := made(t, keys...)
		for k, key := range keys {
			if set>>k&1 == 1 {
				puts(t, "from below", below, &a, key, k)
			} else {
				drops(t, "from above", above, &b, key)
			}
		}
		what := fmt.Sprintf("the set %010b", set)
		holds(t, what, below, a, texts...)
		holds(t, what+", from above", above, a, texts...)
		nodes := below.Nodes()
		for _, key := range texts {
			if a.find(key) < 0 && (!below.Put(key, -1) || !below.Drop(key)) {
				t.Fatalf("P13.1: %s: %+q, put and dropped, was no new key", what, key)
			}
			if n := below.Nodes(); n != nodes {
				t.Fatalf("P13.3: %s: %+q, put and dropped, makes of %d nodes %d", what, key, nodes, n)
			}
		}
		holds(t, what+", put into and dropped from", below, a, texts...)
	}
}

// TestOrders puts some keys in all orders, and drops them in another one.
func TestOrders(t *testing.T) {
	keys := []string{"", "git", "gitk", "gits", "go", "goto", "\xc3\xa9"}
	want, a := made(t, keys...)
	nodes := want.Nodes()
	texts := around("gitk", "goto")
	orders(keys, len(keys), func(order []string) {
		l := New[int]()
		for _, key := range order {
			if !l.Put(key, slices.Index(keys, key)) {
				t.Fatalf("P13.1: in the order %+q %+q is not new", order, key)
			}
		}
		if n := l.Nodes(); n != nodes {
			t.Fatalf("P13.3: the order %+q makes %d nodes", order, n)
		}
		if l := pairs(l.Under("")); !slices.Equal(l, a.rising()) {
			t.Fatalf("P13.2: the order %+q makes %v", order, l)
		}
		for _, s := range texts {
			if key, is := l.Longest(s); l.Many(s) != want.Many(s) {
				t.Fatalf("P13.2: the order %+q: Many(%+q) is %d", order, s, l.Many(s))
			} else if long, has := want.Longest(s); key != long || is != has {
				t.Fatalf("P13.2: the order %+q: Longest(%+q) is %+q", order, s, key)
			}
		}
		left := slices.Clone(a)
		for k := range order {
			key := order[(k*3+1)%len(order)]
			drops(t, "orders", l, &left, key)
			if n := l.Nodes(); n != len(left.nodes()) {
				t.Fatalf("P13.3: the order %+q, dropped up to %+q, leaves %d nodes", order, key, n)
			}
		}
	})
}

// orders tells all orders of the first n keys.
func orders(keys []string, n int, tell func(order []string)) {
	if n < 2 {
		tell(slices.Clone(keys))
		return
	}
	for k := range n {
		other := slices.Clone(keys)
		other[k], other[n-1] = other[n-1], other[k]
		orders(other, n-1, tell)
	}
}

// TestLongRow is rows of many calls with keys of few bytes' kinds, so that many begin alike.
func TestLongRow(t *testing.T) {
	letters := []byte{0, 'a', 127, 128, 255}
	for _, kinds := range []int{1, 2, 5} {
		number := uint32(kinds)
		chance := func(n int) int {
			number = number*1664525 + 1013904223
			return int(number>>8) % n
		}
		text := func() string {
			s := make([]byte, chance(6))
			for k := range s {
				s[k] = letters[chance(kinds)]
			}
			return string(s)
		}
		l, a := made(t)
		for k := range 6000 {
			key := text()
			// It grows and shrinks in turns.
			if chance(10) < 3+4*(k/500%2) {
				drops(t, "a long row", l, &a, key)
			} else {
				puts(t, "a long row", l, &a, key, k)
			}
			if chance(20) == 0 {
				l = l.Copy()
			}
			if len(a) < 40 || k%20 == 0 {
				holds(t, "a long row", l, a, key, text(), text(), text(), key+text())
			}
		}
		for len(a) > 0 {
			drops(t, "all", l, &a, a[chance(len(a))].key)
		}
		holds(t, "all dropped", l, a, around("aa")...)
	}
}

// TestTwice: the same calls tell the same.
func TestTwice(t *testing.T) {
	for range 20 {
		l, _ := made(t, "go", "git", "", "gitk", "\xff", "g")
		l.Drop("git")
		if keys, vs := told(l.Under("")); fmt.Sprintf("%+q %v", keys, vs) != `["" "g" "gitk" "go" "\xff"] [2 5 3 0 4]` {
			t.Fatalf("R7: all keys are %+q %v", keys, vs)
		}
	}
}

// TestDeep is as many keys, each of which the next one begins with, as there may be levels.
func TestDeep(t *testing.T) {
	const deep = 1 << 16
	long := strings.Repeat("a", deep)
	l := New[int]()
	for n := deep; n > 0; n-- {
		if !l.Put(long[:n], n) {
			t.Fatalf("P13.1: Put of %d bytes is not new", n)
		}
	}
	if l.Len() != deep || l.Nodes() != deep+1 || l.Many(long[:deep-9]) != 10 || l.Many(long+"a") != 0 {
		t.Errorf("P13.1: of %d levels Len is %d, Nodes %d", deep, l.Len(), l.Nodes())
	}
	if v, is := l.Get(long); v != deep || !is {
		t.Errorf("P13.1: Get of the deepest key is %d %v", v, is)
	}
	if key, is := l.Longest(long + "b"); key != long || !is {
		t.Errorf("P13.2: Longest of the deepest key and a byte has %d bytes", len(key))
	}
	if keys, vs := told(l.Under(long[:deep-2])); len(keys) != 3 || keys[2] != long || !slices.Equal(vs, []int{deep - 2, deep - 1, deep}) {
		t.Errorf("P13.2: Under far down tells %d keys, for which stand %v", len(keys), vs)
	}
	if !l.Drop(long) || !l.Drop(long[:deep/2]) || l.Len() != deep-2 || l.Nodes() != deep-1 {
		t.Errorf("P13.3: two dropped, Len is %d, Nodes %d", l.Len(), l.Nodes())
	}
}

// TestLongKeys is keys of many bytes, that part at their first, last and other bytes.
func TestLongKeys(t *testing.T) {
	const size = 1 << 20
	long := strings.Repeat("ab", size/2)
	l, a := made(t, long, "b"+long[1:], long[:size-1]+"c", long+"c", long[:size/2], long[:size/2]+"x", "\x00"+long)
	if n := l.Nodes(); n != 9 {
		t.Errorf("P13.1: Nodes of long keys is %d", n)
	}
	rising := a.rising()
	if !slices.Equal(pairs(l.Under("")), rising) {
		t.Error("P13.2: long keys are told otherwise")
	}
	for _, s := range []string{long, long + "d", long[:size-1], long[:size/3], long[1:]} {
		answers(t, "long keys", l, rising, s)
	}
	for len(a) > 0 {
		drops(t, "long keys", l, &a, a[len(a)/2].key)
	}
	holds(t, "long keys, dropped", l, a)
}
