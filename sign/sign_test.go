package sign

import (
	"bytes"
	"slices"
	"testing"
)

// bytesOf is a sign's bytes, by the document's arithmetic alone, so that the tests do not ask the library about itself.
func bytesOf(r rune) []byte {
	low := func(shift int) byte { return 0x80 | byte(r>>shift)&0x3f }
	switch {
	case r < 0x80:
		return []byte{byte(r)}
	case r < 0x800:
		return []byte{0xc0 | byte(r>>6), low(0)}
	case r < 0x10000:
		return []byte{0xe0 | byte(r>>12), low(6), low(0)}
	default:
		return []byte{0xf0 | byte(r>>18), low(12), low(6), low(0)}
	}
}

// eachSign goes through all signs.
func eachSign(yield func(r rune) bool) {
	for r := rune(0); r <= 0x10ffff; r++ {
		if (r < 0xd800 || r > 0xdfff) && !yield(r) {
			return
		}
	}
}

// book holds the bytes of all signs, and all that these begin with.
type book struct {
	signs  map[string]rune
	begins map[string]bool
}

func newBook() book {
	k := book{map[string]rune{}, map[string]bool{}}
	for r := range eachSign {
		b := bytesOf(r)
		k.signs[string(b)] = r
		for n := 1; n < len(b); n++ {
			k.begins[string(b[:n])] = true
		}
	}
	return k
}

func (k book) next(b []byte) (rune, int) {
	for n := 1; n <= min(4, len(b)); n++ {
		if r, ok := k.signs[string(b[:n])]; ok {
			return r, n
		}
	}
	if len(b) == 0 {
		return 0, 0
	}
	return 0xfffd, 1
}

func (k book) whole(b []byte) bool {
	return len(b) > 0 && !k.begins[string(b)]
}

func (k book) runes(b []byte) []rune {
	var l []rune
	for len(b) > 0 {
		r, n := k.next(b)
		l = append(l, r)
		b = b[n:]
	}
	return l
}

// edges are the bytes at which what may follow, or begin, changes.
func edges() []byte {
	return []byte{0x00, 0x41, 0x7f, 0x80, 0x8f, 0x90, 0x9f, 0xa0, 0xbf, 0xc0, 0xc1, 0xc2, 0xdf, 0xe0, 0xe1, 0xec, 0xed, 0xee, 0xef, 0xf0, 0xf1, 0xf3, 0xf4, 0xf5, 0xff}
}

// eachRow goes through all rows of at most most bytes, each byte one of few.
func eachRow(few []byte, most int) func(yield func(b []byte) bool) {
	return func(yield func(b []byte) bool) {
		var grow func(b []byte) bool
		grow = func(b []byte) bool {
			if !yield(b) {
				return false
			}
			for _, x := range few {
				if len(b) < most && !grow(append(b[:len(b):len(b)], x)) {
					return false
				}
			}
			return true
		}
		grow(nil)
	}
}

// feedAll is what all Puts tell, and Flush behind them; and the most bytes that waited.
func feedAll(f *Feed, b []byte) (l []rune, most int) {
	put := 0
	for k, x := range b {
		for _, r := range f.Put(x) {
			_, n := Next(b[put:])
			put += n
			l = append(l, r)
		}
		most = max(most, k+1-put)
	}
	return append(l, f.Flush()...), most
}

func TestNextEdges(t *testing.T) {
	for _, x := range []struct {
		name string
		b    []byte
		r    rune
		n    int
	}{
		{"no bytes", nil, 0, 0},
		{"no bytes, but a list", []byte{}, 0, 0},
		{"first of one byte", []byte{0x00}, 0, 1},
		{"last of one byte", []byte{0x7f}, 0x7f, 1},
		{"first of two", []byte{0xc2, 0x80}, 0x80, 2},
		{"last of two", []byte{0xdf, 0xbf}, 0x7ff, 2},
		{"first of three", []byte{0xe0, 0xa0, 0x80}, 0x800, 3},
		{"last of three", []byte{0xef, 0xbf, 0xbf}, 0xffff, 3},
		{"first of four", []byte{0xf0, 0x90, 0x80, 0x80}, 0x10000, 4},
		{"last of four", []byte{0xf4, 0x8f, 0xbf, 0xbf}, 0x10ffff, 4},
		{"d7ff", []byte{0xed, 0x9f, 0xbf}, 0xd7ff, 3},
		{"d800", []byte{0xed, 0xa0, 0x80}, Wrong, 1},
		{"dfff", []byte{0xed, 0xbf, 0xbf}, Wrong, 1},
		{"e000", []byte{0xee, 0x80, 0x80}, 0xe000, 3},
		{"fffd itself", []byte{0xef, 0xbf, 0xbd}, Wrong, 3},
		{"110000", []byte{0xf4, 0x90, 0x80, 0x80}, Wrong, 1},
		{"beyond all", []byte{0xf7, 0xbf, 0xbf, 0xbf}, Wrong, 1},
		{"five bytes", []byte{0xf8, 0x88, 0x80, 0x80, 0x80}, Wrong, 1},
		{"0 in two bytes", []byte{0xc0, 0x80}, Wrong, 1},
		{"7f in two bytes", []byte{0xc1, 0xbf}, Wrong, 1},
		{"7ff in three bytes", []byte{0xe0, 0x9f, 0xbf}, Wrong, 1},
		{"ffff in four bytes", []byte{0xf0, 0x8f, 0xbf, 0xbf}, Wrong, 1},
		{"a byte that only follows", []byte{0x80}, Wrong, 1},
		{"broken off behind one", []byte{0xc3}, Wrong, 1},
		{"broken off behind two", []byte{0xe2, 0x82}, Wrong, 1},
		{"broken off behind three", []byte{0xf0, 0x9f, 0x98}, Wrong, 1},
		{"broken off by another", []byte{0xe2, 0x82, 0x41}, Wrong, 1},
		{"fe", []byte{0xfe}, Wrong, 1},
		{"ff", []byte{0xff}, Wrong, 1},
		{"one byte, and others behind", []byte{0x41, 0xff, 0x42, 0x43, 0x44}, 0x41, 1},
		{"four bytes, and others behind", []byte{0xf0, 0x9f, 0x98, 0x80, 0x80}, 0x1f600, 4},
	} {
		if r, n := Next(x.b); r != x.r || n != x.n {
			t.Errorf("P1.1: %s: Next(% x) = %x, %d; not %x, %d", x.name, x.b, r, n, x.r, x.n)
		}
	}
}

func TestAllSigns(t *testing.T) {
	for r := range eachSign {
		b := bytesOf(r)
		if x, n := Next(append(b, 0x80)); x != r || n != len(b) {
			t.Fatalf("P1.1: Next of %x and a byte = %x, %d", r, x, n)
		}
		if Clean(b) != string(b) || !slices.Equal(Runes(b), []rune{r}) {
			t.Fatalf("P1.1: %x: Clean % x, Runes %x", r, Clean(b), Runes(b))
		}
		for n := range len(b) + 1 {
			if Whole(b[:n]) != (n == len(b)) {
				t.Fatalf("P1.2: Whole of %d bytes of %x", n, r)
			}
		}
		var f Feed
		if l, _ := feedAll(&f, b); !slices.Equal(l, []rune{r}) || f.Waits() {
			t.Fatalf("P1.3: %x is fed as %x", r, l)
		}
	}
}

func TestRows(t *testing.T) {
	k := newBook()
	for b := range eachRow(edges(), 4) {
		r, n := Next(b)
		if wr, wn := k.next(b); r != wr || n != wn {
			t.Fatalf("P1.1: Next(% x) = %x, %d; not %x, %d", b, r, n, wr, wn)
		}
		if Whole(b) != k.whole(b) {
			t.Fatalf("P1.2: Whole(% x) = %v", b, Whole(b))
		}
		want := k.runes(b)
		if l := Runes(b); !slices.Equal(l, want) {
			t.Fatalf("P1.1: Runes(% x) = %x, not %x", b, l, want)
		}
		var clean []byte
		for _, r := range want {
			clean = append(clean, bytesOf(r)...)
		}
		if s := Clean(b); s != string(clean) || Clean([]byte(s)) != s {
			t.Fatalf("P1.1, P1.4: Clean(% x) = % x", b, s)
		}
		var f Feed
		if l, most := feedAll(&f, b); !slices.Equal(l, want) || most > 3 || f.Waits() {
			t.Fatalf("P1.4: % x is fed as %x, not %x; %d bytes waited", b, l, want, most)
		}
	}
}

func TestWhole(t *testing.T) {
	for _, x := range []struct {
		b    []byte
		want bool
	}{
		{nil, false}, {[]byte{}, false}, {[]byte{0x00}, true}, {[]byte{0x41, 0xc3}, true},
		{[]byte{0xc1}, true}, {[]byte{0xc2}, false}, {[]byte{0xdf}, false}, {[]byte{0xc2, 0x41}, true},
		{[]byte{0xe0}, false}, {[]byte{0xe0, 0x9f}, true}, {[]byte{0xe0, 0xa0}, false}, {[]byte{0xe0, 0xa0, 0x7f}, true},
		{[]byte{0xed, 0x9f}, false}, {[]byte{0xed, 0xa0}, true}, {[]byte{0xee, 0x80}, false},
		{[]byte{0xf0, 0x8f}, true}, {[]byte{0xf0, 0x90}, false}, {[]byte{0xf0, 0x90, 0x80}, false}, {[]byte{0xf0, 0x90, 0x80, 0x41}, true},
		{[]byte{0xf4, 0x8f}, false}, {[]byte{0xf4, 0x90}, true}, {[]byte{0xf5}, true}, {[]byte{0x80}, true}, {[]byte{0xff}, true},
		{[]byte{0xef, 0xbf, 0xbd}, true},
	} {
		if Whole(x.b) != x.want {
			t.Errorf("P1.2: Whole(% x) = %v", x.b, !x.want)
		}
	}
}

// TestWholeStays asks what P1.2 means: what Next tells of bytes that are whole is the same with any byte behind them, and of others it may change.
func TestWholeStays(t *testing.T) {
	for b := range eachRow(edges(), 3) {
		r, n := Next(b)
		changes := false
		for more := range eachRow([]byte{0x00, 0x80, 0x90, 0xa0, 0xbf, 0xff}, 3) {
			x, m := Next(append(b[:len(b):len(b)], more...))
			changes = changes || x != r || m != n
		}
		if Whole(b) == changes {
			t.Fatalf("P1.2: Whole(% x) = %v", b, Whole(b))
		}
	}
}

func TestFeed(t *testing.T) {
	var f Feed
	if f.Waits() || len(f.Flush()) != 0 || f.Waits() {
		t.Error("P1.3: something waits of a zero feed")
	}
	for k, x := range []struct {
		put   byte
		want  []rune
		waits bool
	}{
		{0x41, []rune{0x41}, false},
		{0xc3, nil, true}, {0xa9, []rune{0xe9}, false},
		{0xff, []rune{Wrong}, false},
		{0xf0, nil, true}, {0x9f, nil, true}, {0x98, nil, true}, {0x80, []rune{0x1f600}, false},
		// a byte that breaks a sign off brings all that waits, and itself
		{0xf0, nil, true}, {0x9f, nil, true}, {0x98, nil, true}, {0x42, []rune{Wrong, Wrong, Wrong, 0x42}, false},
		// but a new sign's first byte waits in its turn
		{0xe2, nil, true}, {0x82, nil, true}, {0xe2, []rune{Wrong, Wrong}, true}, {0x82, nil, true}, {0xac, []rune{0x20ac}, false},
		// d800 is none as soon as its second byte comes
		{0xed, nil, true}, {0xa0, []rune{Wrong, Wrong}, false}, {0x80, []rune{Wrong}, false},
		{0xf4, nil, true}, {0x90, []rune{Wrong, Wrong}, false},
		{0xef, nil, true}, {0xbf, nil, true}, {0xbd, []rune{Wrong}, false},
		{0x00, []rune{0}, false},
		{0xe2, nil, true}, {0x82, nil, true},
	} {
		if l := f.Put(x.put); !slices.Equal(l, x.want) || f.Waits() != x.waits {
			t.Fatalf("P1.3: step %d: Put(%x) = %x, Waits %v", k, x.put, l, f.Waits())
		}
	}
	if l := f.Flush(); !slices.Equal(l, []rune{Wrong, Wrong}) || f.Waits() || len(f.Flush()) != 0 {
		t.Errorf("P1.3: Flush = %x", l)
	}
	if l := f.Put(0xac); !slices.Equal(l, []rune{Wrong}) {
		t.Errorf("P1.3: what was flushed is still there: %x", l)
	}
}

func TestLongFeed(t *testing.T) {
	k := newBook()
	var all []byte
	for b := range eachRow(edges(), 2) {
		all = append(all, b...)
	}
	var f Feed
	l, most := feedAll(&f, all)
	if !slices.Equal(l, k.runes(all)) || !slices.Equal(l, Runes(all)) {
		t.Error("P1.4: what was fed is not Runes of it")
	}
	if most > 3 {
		t.Errorf("P1.4: %d bytes waited", most)
	}
}

func TestExample(t *testing.T) {
	b := []byte{0xc3, 0xa9, 0xff, 0x41}
	if l := Runes(b); !slices.Equal(l, []rune{0xe9, 0xfffd, 0x41}) {
		t.Errorf("P1.1: %x", l)
	}
	if s := Clean(b); s != "\xc3\xa9\xef\xbf\xbdA" {
		t.Errorf("P1.1: Clean = % x", s)
	}
	if Runes(nil) != nil || Clean(nil) != "" {
		t.Error("P1.1: something is made of no bytes")
	}
}

// TestOwn: what was handed in stays (R5), and what is told is the caller's own (R6).
func TestOwn(t *testing.T) {
	b := []byte{0x41, 0xe2, 0x82, 0xff, 0xc3}
	was := bytes.Clone(b)
	Next(b)
	l := Runes(b)
	s := Clean(b)
	Whole(b)
	if !bytes.Equal(b, was) {
		t.Errorf("R5: % x became % x", was, b)
	}
	clear(b)
	if s != "A\xef\xbf\xbd\xef\xbf\xbd\xef\xbf\xbd\xef\xbf\xbd" || !slices.Equal(l, []rune{0x41, Wrong, Wrong, Wrong, Wrong}) {
		t.Error("R6: what was told changed with what was handed in")
	}
	var f Feed
	f.Put(0xe2)
	g := f
	f.Put(0x82)
	g.Put(0x83)
	if x, y := f.Put(0xac), g.Put(0xac); !slices.Equal(x, []rune{0x20ac}) || !slices.Equal(y, []rune{0x20ec}) {
		t.Errorf("R6: two feeds share what waits: %x, %x", x, y)
	}
}
