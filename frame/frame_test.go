package frame

import (
	"bytes"
	"encoding/binary"
	"fmt"
	"hash/crc32"
	"slices"
	"testing"

	"souffleur/api"
)

// What is named "asked" tells what the chapter asks a second time and by other means: numbers and sums are those of Go's library, and a row of frames is taken apart from its end, each time with one frame less.

func askedPack(p []byte) ([]byte, api.Errno) {
	if len(p) >= 1001 {
		return nil, 112
	}
	var whole bytes.Buffer
	binary.Write(&whole, binary.LittleEndian, uint16(len(p)))
	both := append(bytes.Clone(whole.Bytes()), p...)
	binary.Write(&whole, binary.LittleEndian, crc32.ChecksumIEEE(both))
	whole.Write(p)
	return whole.Bytes(), 0
}

func askedNext(b []byte) (p []byte, n int, no api.Errno) {
	var first struct {
		Size uint16
		Sum  uint32
	}
	r := bytes.NewReader(b)
	if binary.Read(r, binary.LittleEndian, &first) != nil || first.Size >= 1001 || r.Len() < int(first.Size) {
		return nil, 0, 110
	}
	p = make([]byte, first.Size)
	r.Read(p)
	if whole, _ := askedPack(p); !bytes.HasPrefix(b, whole) {
		return nil, 0, 111
	}
	return p, len(b) - r.Len(), 0
}

// placed is a payload, and where its frame begins.
type placed struct {
	at int
	p  string
}

func (x placed) String() string {
	return fmt.Sprintf("%d: % x", x.at, short([]byte(x.p)))
}

func askedEach(b []byte) (l []placed, good int) {
	p, n, no := askedNext(b)
	if no != 0 {
		return nil, 0
	}
	behind, end := askedEach(b[n:])
	l = []placed{{0, string(p)}}
	for _, x := range behind {
		l = append(l, placed{x.at + n, x.p})
	}
	return l, end + n
}

// packed is the frame of a payload that has one.
func packed(p string) []byte {
	b, no := askedPack([]byte(p))
	if no != 0 {
		panic("no frame")
	}
	return b
}

// told is bytes of which the first ones tell a size, with the sum that is right for it and what is behind.
func told(size int, p []byte) []byte {
	both := append([]byte{byte(size), byte(size >> 8)}, p...)
	b := binary.LittleEndian.AppendUint32(both[:2:2], crc32.ChecksumIEEE(both))
	return append(b, p...)
}

// turned is a copy of some bytes, of which one bit is another one.
func turned(b []byte, bit int) []byte {
	own := bytes.Clone(b)
	own[bit/8] ^= 1 << (bit % 8)
	return own
}

// mixed is a row of n bytes of all kinds.
func mixed(n int) []byte {
	row := make([]byte, n)
	x := uint32(n) + 1
	for k := range row {
		x = x*1664525 + 1013904223
		row[k] = byte(x >> 24)
	}
	return row
}

// short tells some bytes, and no more than may be read.
func short(b []byte) []byte {
	return b[:min(len(b), 40)]
}

// payloads is some of all kinds and sizes.
func payloads() [][]byte {
	l := [][]byte{nil, {}, {0}, {1}, {0xff}, []byte("a"), []byte("ls -l"), {0, 0}, {1, 0}, make([]byte, 6), packed("a"), packed(""), bytes.Repeat(packed("a"), 3)}
	for _, n := range []int{2, 3, 7, 8, 254, 255, 256, 257, 511, 512, 767, 768, 999, 1000} {
		l = append(l, mixed(n), make([]byte, n), bytes.Repeat([]byte{0xff}, n))
	}
	return l
}

// isNext fails where Next of some bytes is not as it is asked, or not so again.
func isNext(t *testing.T, b []byte) {
	t.Helper()
	want, size, wrong := askedNext(b)
	given := bytes.Clone(b)
	for range 2 {
		p, n, no := Next(given)
		if !bytes.Equal(p, want) || n != size || no != wrong {
			t.Fatalf("P11.1: Next(% x, of %d bytes) is % x, %d, %d, not % x, %d, %d", short(b), len(b), short(p), n, no, short(want), size, wrong)
		}
		if !bytes.Equal(given, b) {
			t.Fatalf("R5: Next(% x, of %d bytes) changed what it was given", short(b), len(b))
		}
		if no != api.OK && p != nil {
			t.Fatalf("R1: Next(% x, of %d bytes) tells a payload beside %d", short(b), len(b), no)
		}
		// What was told is written into, so that what shares it is told.
		for k := range p {
			p[k]++
		}
		for _, x := range p[len(p):cap(p)] {
			p = append(p, x+1)
		}
	}
}

// isRow fails where Each and Scan of some bytes are not as they are asked, or not so again.
func isRow(t *testing.T, b []byte) {
	t.Helper()
	want, end := askedEach(b)
	given := bytes.Clone(b)
	each := Each(given)
	for range 2 {
		var l []placed
		for where, p := range each {
			l = append(l, placed{where, string(p)})
			for k := range p {
				p[k]++
			}
		}
		if !slices.Equal(l, want) {
			t.Fatalf("P11.2: Each(% x, of %d bytes) is %.200s, not %.200s", short(b), len(b), l, want)
		}
		rows, good := Scan(given)
		if good != end || len(rows) != len(want) {
			t.Fatalf("P11.2: Scan(% x, of %d bytes) is %d payloads, to %d, not %d, to %d", short(b), len(b), len(rows), good, len(want), end)
		}
		for k, p := range rows {
			if string(p) != want[k].p {
				t.Fatalf("P11.2: Scan(% x, of %d bytes): payload %d is % x, not % x", short(b), len(b), k, short(p), short([]byte(want[k].p)))
			}
			for k := range p {
				p[k]++
			}
		}
		if !bytes.Equal(given, b) {
			t.Fatalf("R5: Each or Scan of % x (of %d bytes) changed what they were given", short(b), len(b))
		}
	}
}

// stops fails where Each goes on behind a frame at which it is told false, or does not come to it.
func stops(t *testing.T, b []byte) {
	t.Helper()
	want, _ := askedEach(b)
	for last := range want {
		for range 2 {
			var l []placed
			Each(b)(func(where int, p []byte) bool {
				l = append(l, placed{where, string(p)})
				return len(l) <= last
			})
			if !slices.Equal(l, want[:last+1]) {
				t.Fatalf("P11.2: Each(% x, of %d bytes), told false at frame %d, is %.200s", short(b), len(b), last, l)
			}
		}
	}
}

func TestExample(t *testing.T) {
	want := []byte{0x01, 0x00, 0xeb, 0xe2, 0x36, 0xc4, 0x61}
	b, no := Pack([]byte("a"))
	if !bytes.Equal(b, want) || no != api.OK {
		t.Errorf("P11.1: Pack(61) is % x, %d, not % x", b, no, want)
	}
	p, n, no := Next(want)
	if string(p) != "a" || n != 7 || no != api.OK {
		t.Errorf("P11.1: Next(% x) is % x, %d, %d", want, p, n, no)
	}
	l, good := Scan(want)
	if len(l) != 1 || string(l[0]) != "a" || good != 7 {
		t.Errorf("P11.2: Scan(% x) is %q, %d", want, l, good)
	}
}

func TestMost(t *testing.T) {
	if Most != 1000 {
		t.Errorf("Most is %d", Most)
	}
	if api.ErrFrameForm != 110 || api.ErrFrameSum != 111 || api.ErrFrameLong != 112 {
		t.Error("the errors have other numbers")
	}
}

func TestPack(t *testing.T) {
	for _, p := range payloads() {
		want, _ := askedPack(p)
		given := bytes.Clone(p)
		for range 2 {
			b, no := Pack(given)
			if !bytes.Equal(b, want) || no != api.OK {
				t.Fatalf("P11.1: Pack(% x, of %d bytes) is % x, of %d bytes, %d, not % x", short(p), len(p), short(b), len(b), no, short(want))
			}
			if !bytes.Equal(given, p) {
				t.Fatalf("R5: Pack(% x, of %d bytes) changed what it was given", short(p), len(p))
			}
			clear(b)
			clear(b[len(b):cap(b)])
			if !bytes.Equal(given, p) {
				t.Fatalf("R6: the frame of % x (of %d bytes) shares it", short(p), len(p))
			}
		}
		isNext(t, want)
		isRow(t, want)
	}
	for x := range 256 {
		for _, p := range [][]byte{{byte(x)}, {byte(x), 'a'}, {'a', byte(x)}} {
			want, _ := askedPack(p)
			if b, no := Pack(p); !bytes.Equal(b, want) || no != api.OK {
				t.Fatalf("P11.1: Pack(% x) is % x, %d, not % x", p, b, no, want)
			}
		}
	}
}

// TestPackSizes: each size there is, and its two bytes.
func TestPackSizes(t *testing.T) {
	for n := range 1001 {
		b, no := Pack(mixed(n))
		if no != api.OK || len(b) != n+6 || int(b[0]) != n%256 || int(b[1]) != n/256 {
			t.Fatalf("P11.1: Pack of %d bytes is % x, of %d bytes, %d", n, short(b), len(b), no)
		}
		isNext(t, b)
	}
}

func TestPackLong(t *testing.T) {
	for _, n := range []int{1001, 1002, 1023, 1024, 2000, 1<<15 - 1, 1 << 15, 1<<16 - 1, 1 << 16, 1<<16 + 1, 1<<16 + 1000, 1<<16 + 1001, 1 << 24, 1<<24 + 5} {
		for _, p := range [][]byte{make([]byte, n), mixed(n)} {
			if b, no := Pack(p); b != nil || no != api.ErrFrameLong {
				t.Errorf("P11.1: Pack of %d bytes is % x, %d", n, short(b), no)
			}
		}
	}
}

func TestNextEdges(t *testing.T) {
	a := packed("a")
	for _, x := range []struct {
		what string
		b    []byte
		p    string
		n    int
		no   api.Errno
	}{
		{"nothing", nil, "", 0, 110},
		{"no byte", []byte{}, "", 0, 110},
		{"no byte of a frame", a[:0], "", 0, 110},
		{"one byte", a[:1], "", 0, 110},
		{"the two bytes", a[:2], "", 0, 110},
		{"five bytes", a[:5], "", 0, 110},
		{"five bytes of a frame without payload", packed("")[:5], "", 0, 110},
		{"six bytes, one told", a[:6], "", 0, 110},
		{"six bytes, none told", packed(""), "", 6, 0},
		{"six bytes, none told, and more", append(packed(""), 'x'), "", 6, 0},
		{"six noughts", make([]byte, 6), "", 0, 111},
		{"five noughts", make([]byte, 5), "", 0, 110},
		{"many noughts", make([]byte, 2000), "", 0, 111},
		{"one told, and just as many", a, "a", 7, 0},
		{"one told, and more", append(packed("a"), 'b'), "a", 7, 0},
		{"one told, and a frame", append(packed("a"), packed("b")...), "a", 7, 0},
		{"two told, one behind", told(2, []byte("a")), "", 0, 110},
		{"one told, two under the sum", told(1, []byte("ab")), "", 0, 111},
		{"none told, one under the sum", told(0, []byte("a")), "", 0, 111},
		{"1000 told, and as many", packed(string(mixed(1000))), string(mixed(1000)), 1006, 0},
		{"1000 told, and more", append(packed(string(mixed(1000))), mixed(1000)...), string(mixed(1000)), 1006, 0},
		{"1000 told, and one less", packed(string(mixed(1000)))[:1005], "", 0, 110},
		{"1000 told, and none", packed(string(mixed(1000)))[:6], "", 0, 110},
		{"1001 told, and as many", told(1001, mixed(1001)), "", 0, 110},
		{"1001 told, and more", append(told(1001, mixed(1001)), 'a'), "", 0, 110},
		{"1001 told, and none", told(1001, nil), "", 0, 110},
		{"1001 told, and too few", told(1001, mixed(1000)), "", 0, 110},
		{"1024 told, and as many", told(1024, mixed(1024)), "", 0, 110},
		{"all bits told, and as many", told(65535, mixed(65535)), "", 0, 110},
		{"32768 told, and as many", told(32768, mixed(32768)), "", 0, 110},
		{"too few, and another sum", turned(told(2, []byte("a")), 20), "", 0, 110},
		{"too many told, and another sum", turned(told(1001, mixed(1001)), 20), "", 0, 110},
		{"the highest byte of the size first", []byte{0, 1, 0, 0, 0, 0, 'a'}, "", 0, 110},
		{"the sum of the payload alone", append(binary.LittleEndian.AppendUint32([]byte{1, 0}, crc32.ChecksumIEEE([]byte("a"))), 'a'), "", 0, 111},
		{"the sum of the size behind the payload", append(binary.LittleEndian.AppendUint32([]byte{1, 0}, crc32.ChecksumIEEE([]byte{'a', 1, 0})), 'a'), "", 0, 111},
		{"the sum, its highest byte first", append(binary.BigEndian.AppendUint32([]byte{1, 0}, crc32.ChecksumIEEE([]byte{1, 0, 'a'})), 'a'), "", 0, 111},
	} {
		p, n, no := Next(x.b)
		if string(p) != x.p || n != x.n || no != x.no {
			t.Errorf("P11.1: %s: Next is % x, %d, %d, not % x, %d, %d", x.what, short(p), n, no, short([]byte(x.p)), x.n, x.no)
		}
		isNext(t, x.b)
		isRow(t, x.b)
	}
}

// TestNextBeginnings: all that a frame, and one behind it, begin with.
func TestNextBeginnings(t *testing.T) {
	for _, p := range payloads() {
		both := append(packed(string(p)), packed("b")...)
		for k := range both {
			isNext(t, both[:k])
		}
		isNext(t, both)
		isRow(t, both)
	}
}

// TestOneBit: each bit of a frame, turned.
func TestOneBit(t *testing.T) {
	for _, p := range [][]byte{nil, []byte("a"), []byte("git commit"), mixed(255), mixed(256), mixed(1000)} {
		b := packed(string(p))
		for bit := range 8 * len(b) {
			for _, behind := range [][]byte{nil, make([]byte, 1100)} {
				broken := append(turned(b, bit), behind...)
				isNext(t, broken)
				if l, good := Scan(broken); len(l) != 0 || good != 0 {
					t.Fatalf("P11.2: a frame of %d bytes, of which bit %d is turned, is scanned as %d payloads, to %d", len(b), bit, len(l), good)
				}
			}
		}
	}
}

// TestAllSizesTold: each number that two bytes tell, with as many bytes behind as any frame has, and one less.
func TestAllSizesTold(t *testing.T) {
	row := mixed(65535)
	for size := range 65536 {
		b := []byte{byte(size), byte(size >> 8), 1, 2, 3, 4}
		want := api.ErrFrameForm
		if size <= 1000 {
			want = api.ErrFrameSum
		}
		if p, n, no := Next(append(b, row[:size]...)); p != nil || n != 0 || no != want {
			t.Fatalf("P11.1: Next of %d bytes told, with as many behind and another sum, is % x, %d, %d", size, short(p), n, no)
		}
		if p, n, no := Next(append(b, row[:max(0, size-1)]...)); size > 0 && (p != nil || n != 0 || no != api.ErrFrameForm) {
			t.Fatalf("P11.1: Next of %d bytes told, with one less behind, is % x, %d, %d", size, short(p), n, no)
		}
	}
}

// pieces is what rows are made of: frames, such as are broken, and what is none.
func pieces() [][]byte {
	return [][]byte{
		packed(""), packed("a"), packed("\x00\x00\x00\x00\x00\x00"), packed(string(packed("b"))), packed(string(mixed(300))),
		turned(packed("a"), 0), turned(packed("a"), 9), turned(packed("a"), 30), turned(packed("a"), 50),
		packed("a")[:3], packed("a")[:6], packed("")[:5],
		{0}, make([]byte, 6), told(1001, nil), {1, 0},
	}
}

// TestRows: all rows of up to four pieces.
func TestRows(t *testing.T) {
	var grow func(b []byte, left int)
	grow = func(b []byte, left int) {
		isRow(t, b)
		stops(t, b)
		for _, x := range pieces() {
			if left > 0 {
				grow(append(slices.Clip(b), x...), left-1)
			}
		}
	}
	grow(nil, 4)
}

// TestShortRows: all rows of up to seven bytes of few kinds.
func TestShortRows(t *testing.T) {
	var grow func(b []byte)
	grow = func(b []byte) {
		isNext(t, b)
		isRow(t, b)
		for _, x := range []byte{0, 1, 0x41, 0xff} {
			if len(b) < 7 {
				grow(append(slices.Clip(b), x))
			}
		}
	}
	grow(nil)
}

func TestScanEdges(t *testing.T) {
	row := slices.Concat(packed("a"), packed(""), packed("ccc"))
	ends := []int{0, 7, 13, 22}
	for _, x := range []struct {
		what string
		b    []byte
		n    int
	}{
		{"nothing", nil, 0},
		{"no byte", []byte{}, 0},
		{"one nought", make([]byte, 1), 0},
		{"six noughts", make([]byte, 6), 0},
		{"noughts alone", make([]byte, 1000), 0},
		{"all three", row, 3},
		{"all three, and noughts", append(slices.Clip(row), make([]byte, 1000)...), 3},
		{"all three, and one nought", append(slices.Clip(row), 0), 3},
		{"noughts ahead", append([]byte{0}, row...), 0},
		{"six noughts ahead", append(make([]byte, 6), row...), 0},
		{"noughts between", slices.Concat(row[:7], make([]byte, 6), row[7:]), 1},
		{"half a frame at the end", row[:18], 2},
		{"all but a byte of the last one", row[:21], 2},
		{"a frame, and a byte of the next one", row[:8], 1},
		{"a broken frame at the beginning", turned(row, 6*8), 0},
		{"a broken frame between", turned(row, 9*8), 1},
		{"a broken frame at the end", turned(row, 21*8), 2},
		{"too long a size between", slices.Concat(row[:7], told(1001, mixed(1001)), row[7:]), 1},
		{"half a frame ahead", row[1:], 0},
		{"half a frame between", slices.Concat(row[:7], row[:3], row[7:]), 1},
	} {
		l, good := Scan(x.b)
		if good != ends[x.n] || len(l) != x.n {
			t.Errorf("P11.2: %s: Scan is %q, %d", x.what, l, good)
			continue
		}
		for k, want := range []string{"a", "", "ccc"}[:x.n] {
			if string(l[k]) != want {
				t.Errorf("P11.2: %s: Scan is %q, %d", x.what, l, good)
			}
		}
		var seen []int
		for where, p := range Each(x.b) {
			if !bytes.Equal(p, l[len(seen)]) {
				t.Errorf("P11.2: %s: Each tells %q at %d", x.what, p, where)
			}
			seen = append(seen, where)
		}
		if !slices.Equal(seen, ends[:x.n]) {
			t.Errorf("P11.2: %s: Each tells frames at %d", x.what, seen)
		}
		isRow(t, x.b)
		stops(t, x.b)
	}
}

func TestEachFalse(t *testing.T) {
	var row []byte
	for k := range 9 {
		row = append(row, packed(fmt.Sprint("payload ", k))...)
	}
	stops(t, row)
	stops(t, append(row, 1, 2, 3))
	n := 0
	for range Each(row) {
		n++
		break
	}
	if n != 1 {
		t.Errorf("P11.2: Each goes on behind a break: %d frames", n)
	}
}

// TestEachIsThere: what Each tells may be ranged over, whatever it was given.
func TestEachIsThere(t *testing.T) {
	for _, b := range [][]byte{nil, {}, {0}, make([]byte, 6), packed("a")} {
		if Each(b) == nil {
			t.Errorf("R7: Each(% x) is nil", b)
		}
	}
	for where, p := range Each(nil) {
		t.Errorf("P11.2: Each of nothing tells %q at %d", p, where)
	}
}

// TestEachWithin: one walk within another, over the same row.
func TestEachWithin(t *testing.T) {
	row := slices.Concat(packed("a"), packed("b"), packed("c"))
	each := Each(row)
	var seen []string
	for _, p := range each {
		for _, q := range each {
			seen = append(seen, string(p)+string(q))
			if string(q) == string(p) {
				break
			}
		}
	}
	if !slices.Equal(seen, []string{"aa", "ba", "bb", "ca", "cb", "cc"}) {
		t.Errorf("P11.2: Each within Each tells %q", seen)
	}
}

// TestPackedIsScanned: all payloads, one behind the other, and each alone, with what is no frame behind them.
func TestPackedIsScanned(t *testing.T) {
	behinds := [][]byte{nil, {0}, make([]byte, 5), make([]byte, 6), make([]byte, 3000), packed("half")[:1], packed("half")[:6], packed("half")[:9], turned(packed("a"), 33), told(1001, mixed(1001))}
	for _, behind := range behinds {
		var row []byte
		l := payloads()
		for k, p := range l {
			b, no := Pack(p)
			if no != api.OK {
				t.Fatalf("P11.3: Pack of %d bytes is %d", len(p), no)
			}
			row = append(row, b...)
			isScanned(t, append(slices.Clip(row), behind...), l[:k+1], len(row))
			isScanned(t, append(slices.Clip(b), behind...), l[k:k+1], len(b))
		}
	}
}

// isScanned fails where a row is not scanned as some payloads.
func isScanned(t *testing.T, row []byte, want [][]byte, end int) {
	t.Helper()
	l, good := Scan(row)
	if !slices.EqualFunc(l, want, bytes.Equal) || good != end {
		t.Fatalf("P11.3: %d payloads, packed, are scanned as %d, to %d, not %d", len(want), len(l), good, end)
	}
}

// TestNoughts: however many, they are no frame.
func TestNoughts(t *testing.T) {
	for n := range 2200 {
		b := make([]byte, n)
		want := api.ErrFrameSum
		if n < 6 {
			want = api.ErrFrameForm
		}
		if p, size, no := Next(b); p != nil || size != 0 || no != want {
			t.Fatalf("P11.3: Next of %d noughts is % x, %d, %d", n, short(p), size, no)
		}
		if l, good := Scan(b); len(l) != 0 || good != 0 {
			t.Fatalf("P11.3: %d noughts are scanned as %d payloads, to %d", n, len(l), good)
		}
	}
}

// TestManyFrames: a row of as many as a file might have, and of far more.
func TestManyFrames(t *testing.T) {
	for _, n := range []int{10922, 500000} {
		row := bytes.Repeat(packed(""), n)
		if l, good := Scan(row); len(l) != n || good != 6*n {
			t.Errorf("P11.2: %d frames are scanned as %d, to %d", n, len(l), good)
		}
	}
	row := bytes.Repeat(packed(string(mixed(1000))), 5000)
	if l, good := Scan(row); len(l) != 5000 || good != len(row) {
		t.Errorf("P11.2: 5000 long frames are scanned as %d, to %d", len(l), good)
	}
}

// TestOwn: what was handed in, and what is told, are each other's in nothing.
func TestOwn(t *testing.T) {
	p := []byte("abc")
	b, _ := Pack(p)
	clear(p)
	if !bytes.Equal(b, packed("abc")) {
		t.Errorf("R6: a frame is % x where its payload was written into", b)
	}
	row := slices.Concat(packed("abc"), packed("def"))
	got, _, _ := Next(row)
	l, _ := Scan(row)
	each := Each(row)
	var told [][]byte
	for _, p := range each {
		told = append(told, p)
	}
	clear(row)
	if string(got) != "abc" {
		t.Errorf("R6: Next's payload is %q where what was handed in was written into", got)
	}
	for k, want := range []string{"abc", "def"} {
		if string(l[k]) != want || string(told[k]) != want {
			t.Errorf("R6: payloads are %q and %q where what was handed in was written into", l[k], told[k])
		}
	}
	var again []string
	for _, p := range each {
		again = append(again, string(p))
	}
	if !slices.Equal(again, []string{"abc", "def"}) {
		t.Errorf("R6: Each keeps what was handed in: %q where that was written into", again)
	}
	// Payloads of one answer: what is put behind one, or written into it, is in no other.
	l, _ = Scan(slices.Concat(packed("abc"), packed("def")))
	l[0] = append(l[0], "xxxxxxxxxx"...)
	clear(l[0])
	if string(l[1]) != "def" {
		t.Errorf("R6: payloads share bytes: %q", l[1])
	}
}

// TestEachWrittenInto: a payload, and what was handed in, written into within a walk.
func TestEachWrittenInto(t *testing.T) {
	row := slices.Concat(packed("abc"), packed("def"), packed("ghi"))
	was := bytes.Clone(row)
	var seen []string
	for _, p := range Each(row) {
		seen = append(seen, string(p))
		clear(p)
		clear(p[:cap(p)])
	}
	if !slices.Equal(seen, []string{"abc", "def", "ghi"}) || !bytes.Equal(row, was) {
		t.Errorf("R6: a walk whose payloads are written into tells %q, and leaves % x", seen, row)
	}
	seen = nil
	for _, p := range Each(row) {
		clear(row)
		seen = append(seen, string(p))
	}
	if !slices.Equal(seen, []string{"abc", "def", "ghi"}) {
		t.Errorf("R6: a walk over bytes that are written into tells %q", seen)
	}
}
