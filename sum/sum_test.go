package sum

import (
	"bytes"
	"math"
	"slices"
	"strings"
	"testing"
)

// What is named "asked" tells what the chapter asks a second time: bits in a row, that of the greatest power first, and a division bit by bit.

// askedRest is what bits leave by the chapter's polynomial, told by its powers; a turned rest is told, if it is said so.
func askedRest(bits []byte, turned bool) Sum {
	end := len(bits) - 32
	for at := range end {
		if bits[at] == 0 {
			continue
		}
		for _, power := range [...]int{32, 26, 23, 22, 16, 12, 11, 10, 8, 7, 5, 4, 2, 1, 0} {
			bits[at+32-power] ^= 1
		}
	}
	var s Sum
	for k, bit := range bits[end:] {
		if (bit == 1) != turned {
			s += 1 << k
		}
	}
	return s
}

func askedOf(b []byte) Sum {
	var bits []byte
	for _, x := range b {
		for k := range 8 {
			bits = append(bits, x>>k%2)
		}
	}
	bits = append(bits, make([]byte, 32)...)
	for k := range 32 {
		bits[k] ^= 1
	}
	return askedRest(bits, true)
}

func askedShift(s Sum, n int) Sum {
	if n < 0 || n > 1048576 {
		return 0
	}
	bits := make([]byte, 32+8*n)
	for k := range 32 {
		bits[k] = byte(s >> k % 2)
	}
	return askedRest(bits, false)
}

// fourOf is the four bytes of which s is the sum: the division, gone through from its end.
func fourOf(s Sum) []byte {
	rest := ^s
	for range 32 {
		if rest>>31 == 1 {
			rest = (rest^0xedb88320)<<1 + 1
		} else {
			rest <<= 1
		}
	}
	return four(^rest)
}

// four is a number's four bytes, the lowest first.
func four(s Sum) []byte {
	return []byte{byte(s), byte(s >> 8), byte(s >> 16), byte(s >> 24)}
}

// rowOf is a row of n bytes, four at least, of which s is the sum: any bytes, and four that make it so.
func rowOf(s Sum, n int) []byte {
	row := mixed(n - 4)
	was := four(askedOf(row))
	for k, x := range fourOf(s) {
		row = append(row, x^was[k])
	}
	return row
}

// mixed is a row of n bytes of all kinds.
func mixed(n int) []byte {
	row := make([]byte, n)
	x := uint32(n) + 1
	for k := range row {
		x = x*1664525 + 1013904223
		row[k] = byte(x >> 24)
	}
	return row
}

// noughts is a row of n of them.
func noughts(n int) []byte {
	return make([]byte, n)
}

// sums is some of all kinds: none, all ones, one bit each and all but one, and others.
func sums() []Sum {
	l := []Sum{0, math.MaxUint32, 0xcbf43926, 0xedb88320, 0x04c11db7, 0x12345678, 0xdeadbeef, 0x55555555, 0xaaaaaaaa, 0x0000ffff, 0xffff0000, 0x00ff00ff}
	for k := range 32 {
		l = append(l, 1<<k, ^Sum(1<<k))
	}
	return l
}

// few is some sums of sums.
func few() []Sum {
	return []Sum{0, math.MaxUint32, 1, 1 << 31, 0xcbf43926, 0xedb88320}
}

// wrong is numbers of bytes by which nothing is shifted.
func wrong() []int {
	return []int{-1, -2, -8, -31, -32, -1 << 20, -1<<20 - 1, math.MinInt32, math.MinInt, math.MinInt + 1, 1<<20 + 1, 1<<20 + 2, 1<<20 + 1<<19, 1<<21 - 1, 1 << 21, 1 << 24, math.MaxInt32, math.MaxInt - 1, math.MaxInt}
}

// eachRow goes through all rows of at most most bytes, each byte one of some.
func eachRow(some []byte, most int) func(yield func(b []byte) bool) {
	return func(yield func(b []byte) bool) {
		var grow func(b []byte) bool
		grow = func(b []byte) bool {
			if !yield(b) {
				return false
			}
			for _, x := range some {
				if len(b) < most && !grow(append(slices.Clip(b), x)) {
					return false
				}
			}
			return true
		}
		grow(nil)
	}
}

// short tells some bytes, and no more than may be read.
func short(b []byte) []byte {
	return b[:min(len(b), 40)]
}

// isSum fails where the sum of some bytes is not as it is asked, or not so again, by Of and by Add.
func isSum(t *testing.T, what string, b []byte) {
	t.Helper()
	want := askedOf(b)
	for range 2 {
		if s := Of(b); s != want {
			t.Fatalf("P9.1: %s: Of(% x, of %d bytes) is %08x, not %08x", what, short(b), len(b), s, want)
		}
		if s := Sum(0).Add(b); s != want {
			t.Fatalf("P9.1: %s: Add to the sum of nothing of (% x, of %d bytes) is %08x, not %08x", what, short(b), len(b), s, want)
		}
	}
}

// isAskedShift fails where a Shift is not as it is asked, or not so again.
func isAskedShift(t *testing.T, s Sum, n int) {
	t.Helper()
	want := askedShift(s, n)
	for range 2 {
		if shifted := Shift(s, n); shifted != want {
			t.Fatalf("P9.2: Shift(%08x, %d) is %08x, not %08x", s, n, shifted, want)
		}
	}
}

// isJoined fails where the sums of two rows, joined, are not that of both, put together.
func isJoined(t *testing.T, x, y []byte) {
	t.Helper()
	both := append(slices.Clip(x), y...)
	want := Of(both)
	if s := Join(Of(x), Of(y), len(y)); s != want {
		t.Fatalf("P9.3: Join of % x (of %d bytes) and % x (of %d bytes) is %08x, not %08x", short(x), len(x), short(y), len(y), s, want)
	}
}

func TestExample(t *testing.T) {
	if s := Of([]byte("123456789")); s != 0xcbf43926 {
		t.Errorf("P9.1: Of(123456789) is %08x", s)
	}
	if s := askedOf([]byte("123456789")); s != 0xcbf43926 {
		t.Errorf("the second telling of 123456789 is %08x", s)
	}
}

// TestKnown: sums that are known elsewhere, so that both tellings are not wrong alike.
func TestKnown(t *testing.T) {
	for _, x := range []struct {
		b string
		s Sum
	}{
		{"", 0},
		{"\x00", 0xd202ef8d},
		{"\x00\x00\x00\x00", 0x2144df1c},
		{"\xff\xff\xff\xff", 0xffffffff},
		{strings.Repeat("\x00", 32), 0x190a55ad},
		{strings.Repeat("\xff", 32), 0xff6cab0b},
		{"a", 0xe8b7be43},
		{"abc", 0x352441c2},
		{"message digest", 0x20159d7f},
		{"abcdefghijklmnopqrstuvwxyz", 0x4c2750bd},
		{"The quick brown fox jumps over the lazy dog", 0x414fa339},
	} {
		if s := Of([]byte(x.b)); s != x.s {
			t.Errorf("P9.1: Of(%+q) is %08x, not %08x", x.b, s, x.s)
		}
		isSum(t, "a known sum", []byte(x.b))
	}
}

func TestNoBytes(t *testing.T) {
	for _, none := range [][]byte{nil, {}, make([]byte, 0, 8), []byte("abc")[1:1]} {
		if s := Of(none); s != 0 {
			t.Errorf("P9.1: Of no bytes is %08x", s)
		}
		for _, s := range sums() {
			if with := s.Add(none); with != s {
				t.Errorf("P9.1: %08x, and no bytes behind it, is %08x", s, with)
			}
		}
	}
}

func TestEachByte(t *testing.T) {
	for x := range 256 {
		isSum(t, "one byte", []byte{byte(x)})
		isSum(t, "one byte behind another", []byte{'a', byte(x)})
		isSum(t, "one byte ahead of another", []byte{byte(x), 'a'})
		isSum(t, "one byte often", bytes.Repeat([]byte{byte(x)}, 41))
	}
}

// TestEachByteBehindEachSum: each number is the sum of four bytes, and so one that bytes may come behind.
func TestEachByteBehindEachSum(t *testing.T) {
	for _, s := range sums() {
		ahead := fourOf(s)
		if is := Of(ahead); is != s {
			t.Fatalf("P9.1: Of(% x) is %08x, not %08x", ahead, is, s)
		}
		for x := range 256 {
			if with, want := s.Add([]byte{byte(x)}), askedOf(append(slices.Clip(ahead), byte(x))); with != want {
				t.Fatalf("P9.1: %08x, and %02x behind it, is %08x, not %08x", s, x, with, want)
			}
		}
		behind := mixed(50)
		if with, want := s.Add(behind), askedOf(append(slices.Clip(ahead), behind...)); with != want {
			t.Errorf("P9.1: %08x, and % x behind it, is %08x, not %08x", s, behind, with, want)
		}
	}
}

// TestRows: all short rows, in two parts, however they are cut, and byte by byte.
func TestRows(t *testing.T) {
	for b := range eachRow([]byte{0x00, 0x01, 0x5a, 0x80, 0xff}, 5) {
		isSum(t, "a short row", b)
		whole, single := Of(b), Sum(0)
		for k := range b {
			single = single.Add(b[k : k+1])
		}
		if single != whole {
			t.Fatalf("P9.1: % x, byte by byte, is %08x, not %08x", b, single, whole)
		}
		for cut := range len(b) + 1 {
			if s := Of(b[:cut]).Add(b[cut:]); s != whole {
				t.Fatalf("P9.1: % x, and % x behind it, is %08x, not %08x", b[:cut], b[cut:], s, whole)
			}
			isJoined(t, b[:cut], b[cut:])
		}
	}
}

// TestParts: a row in three parts, however it is cut, some of them empty.
func TestParts(t *testing.T) {
	row := mixed(70)
	isSum(t, "a row", row)
	whole := Of(row)
	for from := range len(row) + 1 {
		for to := from; to <= len(row); to++ {
			a, b, c := row[:from], row[from:to], row[to:]
			if s := Of(a).Add(b).Add(c); s != whole {
				t.Fatalf("P9.1: the row, cut at %d and %d, is %08x, not %08x", from, to, s, whole)
			}
			if s := Join(Join(Of(a), Of(b), len(b)), Of(c), len(c)); s != whole {
				t.Fatalf("P9.3: the row, cut at %d and %d, its first parts joined first, is %08x, not %08x", from, to, s, whole)
			}
			if s := Join(Of(a), Join(Of(b), Of(c), len(c)), len(b)+len(c)); s != whole {
				t.Fatalf("P9.3: the row, cut at %d and %d, its last parts joined first, is %08x, not %08x", from, to, s, whole)
			}
		}
	}
}

// TestNoughts: how many noughts a row begins and ends with is told by its sum.
func TestNoughts(t *testing.T) {
	seen := map[Sum][2]int{}
	for ahead := range 40 {
		for behind := range 40 {
			row := append(append(noughts(ahead), "text"...), noughts(behind)...)
			isSum(t, "noughts at both ends", row)
			if was, is := seen[Of(row)]; is {
				t.Fatalf("P9.1: %d and %d noughts are as %d and %d", ahead, behind, was[0], was[1])
			}
			seen[Of(row)] = [2]int{ahead, behind}
			isJoined(t, row[:ahead], row[ahead:])
			isJoined(t, row[:ahead+4], row[ahead+4:])
		}
		isSum(t, "noughts alone", noughts(ahead))
		isJoined(t, noughts(ahead), noughts(40-ahead))
	}
}

func TestLongRows(t *testing.T) {
	for _, n := range []int{100, 255, 256, 257, 1000, 1006, 4095, 1<<16 - 1, 1 << 16, 1<<16 + 1, 1 << 20, 1<<20 + 5} {
		isSum(t, "a long row", mixed(n))
		isSum(t, "a long row of noughts", noughts(n))
		isSum(t, "a long row of ones", bytes.Repeat([]byte{0xff}, n))
		isSum(t, "a long row, which begins and ends with noughts", slices.Concat(noughts(n/3), mixed(n/3), noughts(n/3)))
	}
	long := mixed(1 << 24)
	parts := Sum(0)
	for part := range slices.Chunk(long, 1<<10+1) {
		parts = parts.Add(part)
	}
	if whole := Of(long); parts != whole {
		t.Errorf("P9.1: many bytes, in parts, are %08x, not %08x", parts, whole)
	}
}

func TestBytes(t *testing.T) {
	for _, x := range []struct {
		s Sum
		b [4]byte
	}{
		{0, [4]byte{}},
		{math.MaxUint32, [4]byte{0xff, 0xff, 0xff, 0xff}},
		{0xcbf43926, [4]byte{0x26, 0x39, 0xf4, 0xcb}},
		{0x01020304, [4]byte{4, 3, 2, 1}},
		{0x80000000, [4]byte{0, 0, 0, 0x80}},
		{0x00800000, [4]byte{0, 0, 0x80, 0}},
		{0x00008000, [4]byte{0, 0x80, 0, 0}},
		{0x00000080, [4]byte{0x80, 0, 0, 0}},
	} {
		if b := x.s.Bytes(); b != x.b {
			t.Errorf("P9.1: Bytes of %08x are % x, not % x", x.s, b, x.b)
		}
		if s, is := Read(x.b[:]); s != x.s || !is {
			t.Errorf("P9.1: Read(% x) is %08x %v, not %08x", x.b, s, is, x.s)
		}
	}
}

// TestReadAgain: sums as bytes, and read again, whatever is behind them.
func TestReadAgain(t *testing.T) {
	for _, s := range sums() {
		b := s.Bytes()
		if !bytes.Equal(b[:], four(s)) {
			t.Errorf("P9.1: Bytes of %08x are % x", s, b)
		}
		for _, behind := range [][]byte{nil, {0x00}, {0xff}, {1, 2, 3, 4}, noughts(1000), mixed(1000)} {
			if again, is := Read(append(slices.Clip(b[:]), behind...)); again != s || !is {
				t.Errorf("P9.1: Read(% x, and % x) is %08x %v, not %08x", b, short(behind), again, is, s)
			}
		}
	}
	for at := range 4 {
		for x := range 256 {
			b := []byte{0x12, 0x34, 0x56, 0x78}
			b[at] = byte(x)
			s, is := Read(b)
			if again := s.Bytes(); !is || !bytes.Equal(again[:], b) {
				t.Errorf("P9.1: Read(% x) is %08x %v", b, s, is)
			}
		}
	}
}

func TestReadOfFewer(t *testing.T) {
	full := bytes.Repeat([]byte{0xff}, 8)
	for _, b := range [][]byte{nil, {}, {0}, {1}, {0xff}, {0, 0}, {1, 2}, {0, 0, 0}, {1, 2, 3}, full[:0], full[:1], full[:2], full[:3]} {
		if s, is := Read(b); s != 0 || is {
			t.Errorf("P9.1: Read(% x) is %08x %v", b, s, is)
		}
	}
}

func TestShiftByHand(t *testing.T) {
	for _, x := range []struct {
		what string
		s    Sum
		n    int
		want Sum
	}{
		{"nothing", 0, 0, 0},
		{"nothing, by a byte", 0, 1, 0},
		{"nothing, by many", 0, 1 << 20, 0},
		{"all, by none", math.MaxUint32, 0, math.MaxUint32},
		{"1, by none", 1 << 31, 0, 1 << 31},
		{"1, by a byte: x^8", 1 << 31, 1, 1 << 23},
		{"1, by two: x^16", 1 << 31, 2, 1 << 15},
		{"1, by three: x^24", 1 << 31, 3, 1 << 7},
		{"1, by four: x^32", 1 << 31, 4, 0xedb88320},
		{"x^23, by a byte: x^31", 1 << 8, 1, 1},
		{"x^24, by a byte: x^32", 1 << 7, 1, 0xedb88320},
		{"x^31, by none", 1, 0, 1},
	} {
		if s := Shift(x.s, x.n); s != x.want {
			t.Errorf("P9.2: %s: Shift(%08x, %d) is %08x, not %08x", x.what, x.s, x.n, s, x.want)
		}
		isAskedShift(t, x.s, x.n)
	}
}

func TestShift(t *testing.T) {
	for _, s := range sums() {
		for n := range 70 {
			isAskedShift(t, s, n)
		}
	}
	for _, s := range few() {
		for n := range 600 {
			isAskedShift(t, s, n)
		}
		for n := 1; n <= 1<<17; n *= 2 {
			isAskedShift(t, s, n-1)
			isAskedShift(t, s, n)
			isAskedShift(t, s, n+1)
		}
	}
	for _, n := range []int{1<<18 + 1, 1<<19 - 1, 1 << 19, 0x5a5a5, 0xa5a5a, 1<<20 - 1, 1 << 20} {
		isAskedShift(t, 1<<31, n)
		isAskedShift(t, 0xdeadbeef, n)
		isAskedShift(t, math.MaxUint32, n)
	}
}

func TestWrongNumbers(t *testing.T) {
	for _, n := range wrong() {
		for _, s := range sums() {
			if shifted := Shift(s, n); shifted != 0 {
				t.Errorf("P9.2: Shift(%08x, %d) is %08x", s, n, shifted)
			}
			for _, b := range few() {
				if joined := Join(s, b, n); joined != 0 {
					t.Errorf("P9.2: Join(%08x, %08x, %d) is %08x", s, b, n, joined)
				}
			}
		}
	}
}

// TestJoin: of rows that have the sums, the sum of both, put together.
func TestJoin(t *testing.T) {
	for _, n := range []int{4, 5, 7, 8, 31, 100, 1000} {
		for _, b := range sums() {
			second := rowOf(b, n)
			if s := Of(second); s != b || len(second) != n {
				t.Fatalf("P9.1: Of(% x, of %d bytes) is %08x, not %08x", short(second), len(second), s, b)
			}
			for _, a := range few() {
				if s, want := Join(a, b, n), askedOf(append(fourOf(a), second...)); s != want {
					t.Fatalf("P9.2: Join(%08x, %08x, %d) is %08x, not %08x", a, b, n, s, want)
				}
			}
		}
	}
	for _, n := range []int{1 << 16, 1<<20 - 1, 1 << 20} {
		for _, b := range []Sum{0, math.MaxUint32, 0xcbf43926} {
			second := rowOf(b, n)
			for _, a := range []Sum{0, math.MaxUint32, 1} {
				if s, want := Join(a, b, n), askedOf(append(fourOf(a), second...)); s != want {
					t.Fatalf("P9.2: Join(%08x, %08x, %d) is %08x, not %08x", a, b, n, s, want)
				}
			}
		}
	}
}

// TestJoinOfFewBytes: fewer than four bytes have few sums.
func TestJoinOfFewBytes(t *testing.T) {
	for _, a := range sums() {
		if s := Join(a, 0, 0); s != a {
			t.Errorf("P9.2: Join(%08x, 0, 0) is %08x", a, s)
		}
		for _, second := range [][]byte{{0x00}, {0xff}, {0x41}, {0x00, 0x00}, {0xff, 0xff}, {1, 2}, {0, 0, 0}, {0xff, 0xff, 0xff}, {1, 2, 3}} {
			if s, want := Join(a, Of(second), len(second)), askedOf(append(fourOf(a), second...)); s != want {
				t.Errorf("P9.2: Join(%08x, %08x, %d) is %08x, not %08x", a, Of(second), len(second), s, want)
			}
		}
	}
	for x := range 256 {
		isJoined(t, nil, []byte{byte(x)})
		isJoined(t, []byte{byte(x)}, nil)
		isJoined(t, []byte{byte(x)}, []byte{byte(x)})
		isJoined(t, mixed(x), []byte{byte(x)})
	}
	isJoined(t, nil, nil)
}

func TestJoinOfRows(t *testing.T) {
	lengths := []int{0, 1, 2, 3, 4, 5, 8, 15, 16, 17, 64, 100, 1000, 1 << 16}
	for _, m := range lengths {
		for _, n := range lengths {
			isJoined(t, mixed(m), mixed(n + 1)[1:])
			isJoined(t, noughts(m), mixed(n))
			isJoined(t, mixed(m), noughts(n))
		}
	}
	for _, n := range []int{1<<20 - 1, 1 << 20} {
		isJoined(t, mixed(3), mixed(n))
		isJoined(t, mixed(n), mixed(3))
		isJoined(t, nil, noughts(n))
		isJoined(t, mixed(1<<20+9), noughts(n))
	}
	if x, y := mixed(3), mixed(1<<20+1); Join(Of(x), Of(y), len(y)) != 0 {
		t.Error("P9.2: more bytes than may be shifted by are joined")
	}
}

// TestShiftOfXor: what two sums differ in is shifted alone.
func TestShiftOfXor(t *testing.T) {
	numbers := append([]int{0, 1, 2, 3, 4, 5, 31, 32, 33, 255, 1000, 1 << 16, 0xa5a5a, 1<<20 - 1, 1 << 20}, wrong()...)
	for _, n := range numbers {
		for _, a := range sums() {
			for _, b := range few() {
				if s, want := Shift(a^b, n), Shift(a, n)^Shift(b, n); s != want {
					t.Fatalf("P9.3: Shift(%08x xor %08x, %d) is %08x, not %08x", a, b, n, s, want)
				}
			}
		}
	}
}

// TestTwoShifts: one behind the other, they are as one by both numbers.
func TestTwoShifts(t *testing.T) {
	numbers := []int{0, 1, 2, 3, 4, 7, 8, 100, 255, 256, 1 << 10, 1<<16 + 1, 1 << 18, 1<<19 - 1, 1 << 19}
	for _, s := range sums() {
		for _, m := range numbers {
			for _, n := range numbers {
				if twice, want := Shift(Shift(s, m), n), Shift(s, m+n); twice != want {
					t.Fatalf("P9.2: Shift(%08x, %d), by %d, is %08x, not %08x", s, m, n, twice, want)
				}
			}
		}
	}
	if s := Shift(Shift(0xcbf43926, 1<<20), 1<<20); s == 0 {
		t.Error("P9.2: two Shifts that may be leave nothing")
	}
}

// TestOwn: what was handed in stays (R5), and what is told is the caller's own (R6).
func TestOwn(t *testing.T) {
	row := mixed(20)
	was := bytes.Clone(row)
	part := row[:10]
	s := Of(part)
	with := s.Add(part)
	read, _ := Read(part)
	b := s.Bytes()
	if !bytes.Equal(row, was) {
		t.Errorf("R5: % x became % x", was, row)
	}
	clear(row)
	if s != askedOf(was[:10]) || with != askedOf(append(slices.Clip(was[:10]), was[:10]...)) || !bytes.Equal(four(read), was[:4]) {
		t.Error("R6: what was told changed with what was handed in")
	}
	clear(b[:])
	if again := s.Bytes(); !bytes.Equal(again[:], four(s)) {
		t.Errorf("R6: Bytes of %08x are % x, when those that were told ahead were written into", s, again)
	}
}
