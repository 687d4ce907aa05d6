package journal

import (
	"bytes"
	"encoding/binary"
	"fmt"
	"hash/crc32"
	"math"
	"slices"
	"strings"
	"testing"
	"unicode"
	"unicode/utf8"

	"souffleur/api"
	"souffleur/file"
)

// What is named "asked" tells what the chapter asks a second time and by other means: numbers and sums are those of Go's library, a payload is right if it is that of the entry which is read out of it, and a journal is no more than a file system of its own and a name.

const askedMost = 1<<40 - 1

func askedRight(e Entry) bool {
	for _, s := range []string{e.Dir, e.Cmd} {
		if !utf8.ValidString(s) || strings.ContainsFunc(s, unicode.IsControl) {
			return false
		}
	}
	return uint64(e.Time) < 1<<40 && len(e.Dir) < 61 && len(e.Cmd) < 601 && len(e.Cmd) > 0
}

func askedPayload(e Entry) []byte {
	var whole bytes.Buffer
	binary.Write(&whole, binary.LittleEndian, int64(e.Time))
	whole.Truncate(5)
	fmt.Fprintf(&whole, "%c%s%s", len(e.Dir), e.Dir, e.Cmd)
	return whole.Bytes()
}

func askedFrame(p []byte) []byte {
	size := binary.LittleEndian.AppendUint16(nil, uint16(len(p)))
	sum := crc32.Update(crc32.ChecksumIEEE(size), crc32.IEEETable, p)
	return append(binary.LittleEndian.AppendUint32(size, sum), p...)
}

// packed is the frame of an entry that is right.
func packed(e Entry) []byte {
	if !askedRight(e) {
		panic("no entry")
	}
	return askedFrame(askedPayload(e))
}

func askedUnpack(p []byte) (e Entry, is bool) {
	for size := range 61 {
		if size+6 >= len(p) || int(p[5]) != size {
			continue
		}
		time := binary.LittleEndian.Uint64(append(p[:5:5], 0, 0, 0))
		e := Entry{int(time), string(p[6 : 6+size]), string(p[6+size:])}
		if askedRight(e) && bytes.Equal(askedPayload(e), p) {
			return e, true
		}
	}
	return Entry{}, false
}

// askedEntries takes a file's bytes apart: each step takes one frame off.
func askedEntries(b []byte) (l []Entry, end int) {
	whole := len(b)
	for len(b) >= 6 {
		size := 6 + int(binary.LittleEndian.Uint16(b))
		if size > 1006 || size > len(b) || !bytes.Equal(askedFrame(b[6:size]), b[:size]) {
			break
		}
		e, is := askedUnpack(b[6:size])
		if !is {
			break
		}
		l, b = append(l, e), b[size:]
	}
	return l, whole - len(b)
}

type asked struct {
	f    *file.Files
	name string
}

func (a *asked) has(name string) bool {
	return slices.Contains(a.f.Names(), name)
}

func askedOpen(f *file.Files, name string) (*asked, []Entry, api.Errno) {
	a := &asked{f, name}
	if f.Down() {
		return nil, nil, 100
	}
	if len(name) == 0 || len(name) >= 17 {
		return nil, nil, 101
	}
	if a.has(name + "~") {
		if no := f.Remove(name + "~"); no != 0 {
			return nil, nil, no
		}
	}
	if !a.has(name) {
		return a, nil, 0
	}
	b, _ := f.Read(name)
	l, end := askedEntries(b)
	if end != len(b) {
		if no := f.Cut(name, end); no != 0 {
			return nil, nil, no
		}
	}
	return a, l, 0
}

func (a *asked) read() ([]Entry, api.Errno) {
	if a.f.Down() {
		return nil, 100
	}
	if !a.has(a.name) {
		return nil, 0
	}
	b, _ := a.f.Read(a.name)
	l, _ := askedEntries(b)
	return l, 0
}

func (a *asked) append(e Entry) api.Errno {
	if !askedRight(e) {
		return 120
	}
	return a.f.Write(a.name, packed(e))
}

func (a *asked) sync() api.Errno {
	if !a.f.Down() && !a.has(a.name) {
		return 0
	}
	return a.f.Sync(a.name)
}

func (a *asked) compact(l []Entry) api.Errno {
	for _, e := range l {
		if !askedRight(e) {
			return 120
		}
	}
	other := a.name + "~"
	var rows [][]byte
	for _, e := range l {
		rows = append(rows, packed(e))
	}
	if len(rows) == 0 {
		rows = [][]byte{{}}
	}
	no := api.OK
	if a.has(other) {
		no = a.f.Remove(other)
	}
	for k := 0; k < len(rows) && no == 0; k++ {
		no = a.f.Write(other, rows[k])
	}
	if no == 0 {
		no = a.f.Sync(other)
	}
	if no == 0 {
		no = a.f.Rename(other, a.name)
	}
	if no != 0 && no != 100 && a.has(other) {
		a.f.Remove(other)
	}
	return no
}

// entry is one of few that are right, and are told apart.
func entry(k int) Entry {
	return Entry{k, strings.Repeat("d", k%3), fmt.Sprint("cmd ", k)}
}

// entriesOf is some of these.
func entriesOf(numbers ...int) (l []Entry) {
	for _, k := range numbers {
		l = append(l, entry(k))
	}
	return l
}

// shown is an entry, as far as it may be read.
func shown(e Entry) string {
	return fmt.Sprintf("%d %+.30q (%d bytes) %+.30q (%d bytes)", e.Time, e.Dir, len(e.Dir), e.Cmd, len(e.Cmd))
}

// rows is the frames of some entries, one behind the other.
func rows(l ...Entry) (b []byte) {
	for _, e := range l {
		b = append(b, packed(e)...)
	}
	return b
}

// wrongs is entries none of which is right.
func wrongs() []Entry {
	return []Entry{
		{}, {0, "", ""}, {1, "/", ""}, {-1, "/", "ls"}, {askedMost + 1, "/", "ls"}, {math.MinInt, "", "ls"}, {math.MaxInt, "", "ls"},
		{1 << 41, "", "ls"}, {1 << 62, "", "ls"}, {-1 << 40, "", "ls"},
		{0, strings.Repeat("d", 61), "ls"}, {0, strings.Repeat("é", 31), "ls"}, {0, strings.Repeat("d", 256), "ls"}, {0, strings.Repeat("d", 316), "ls"}, {0, "", strings.Repeat("c", 601)}, {0, "", strings.Repeat("c", 1<<17)},
		{0, "/\x00", "ls"}, {0, "\x1b", "ls"}, {0, "a\tb", "ls"}, {0, "\n", "ls"}, {0, "\r", "ls"}, {0, "\x7f", "ls"}, {0, "\u0080", "ls"}, {0, "\u009f", "ls"},
		{0, "\xff", "ls"}, {0, "a\xc3", "ls"}, {0, "\x80", "ls"}, {0, "\xed\xa0\x80", "ls"}, {0, "\xc0\x80", "ls"}, {0, "\xf4\x90\x80\x80", "ls"},
		{0, "", "\x00"}, {0, "", "ls\x1b"}, {0, "", "a\tb"}, {0, "", "ls\n"}, {0, "", "\r"}, {0, "", "\x7f"}, {0, "", "\u0080"}, {0, "", "\u009f"},
		{0, "", "\xff"}, {0, "", "ls\xc3"}, {0, "", "\xa9"}, {0, "", "\xed\xbf\xbf"}, {0, "", "\xe0\x80\xaf"}, {0, "", "\xf8\x88\x80\x80\x80"},
	}
}

// rights is entries that are all right.
func rights() []Entry {
	return []Entry{
		{0, "", "c"}, {1, "/", "ls"}, {255, "d", "c"}, {256, "d", "c"}, {1<<32 - 1, "/", "ls"}, {1 << 32, "/", "ls"}, {0x0102030405, "/home", "git commit -m é中"},
		{askedMost, "", "c"}, {askedMost - 1, "", "c"}, {1 << 39, "", "c"},
		{0, strings.Repeat("d", 60), "c"}, {0, strings.Repeat("d", 59), "c"}, {0, strings.Repeat("é", 30), "c"}, {0, strings.Repeat("d", 32), "c"},
		{0, "", strings.Repeat("c", 600)}, {0, "", strings.Repeat("c", 599)}, {0, "", strings.Repeat("中", 200)}, {askedMost, strings.Repeat("d", 60), strings.Repeat("c", 600)},
		{0, " ", " "}, {0, "\u0301", "\u0301"}, {0, "\ufffd", "\ufffd"}, {0, "\u00a0", "~"}, {0, "\u200b", "\u200d"}, {0, "\U0010ffff", "\U0010ffff"}, {0, "\ud7ff", "\ue000"}, {0, "0", "c"},
	}
}

func TestExample(t *testing.T) {
	f := file.New()
	j, l, no := Open(f, "hist")
	if j == nil || len(l) != 0 || no != api.OK || len(f.Names()) != 0 || f.Ops() != 0 {
		t.Fatalf("P12.2: Open is %v, %v, %d; files %q", j, l, no, f.Names())
	}
	for _, no := range []api.Errno{j.Append(Entry{1, "/", "a"}), j.Sync(), j.Append(Entry{2, "/", "b"}), j.Append(Entry{3, "/", "c"})} {
		if no != api.OK {
			t.Errorf("P12.3: Append or Sync is %d", no)
		}
	}
	if l, no := j.Read(); !slices.Equal(l, []Entry{{1, "/", "a"}, {2, "/", "b"}, {3, "/", "c"}}) || no != api.OK {
		t.Errorf("P12.2: Read is %v, %d", l, no)
	}
	f.Crash([]bool{false, true})
	if l, no := j.Read(); !slices.Equal(l, []Entry{{1, "/", "a"}}) || no != api.OK {
		t.Errorf("P12.4: behind a Crash, Read is %v, %d", l, no)
	}
	if _, l, no := Open(f, "hist"); !slices.Equal(l, []Entry{{1, "/", "a"}}) || no != api.OK {
		t.Errorf("P12.4: behind a Crash, Open's entries are %v, %d", l, no)
	}
	if b, _ := f.Read("hist"); !bytes.Equal(b, packed(Entry{1, "/", "a"})) {
		t.Errorf("P12.2: Open left % x", b)
	}
}

func TestRight(t *testing.T) {
	for _, e := range rights() {
		if !Right(e) || !askedRight(e) {
			t.Errorf("P12.1: Right(%s) is %v", shown(e), Right(e))
		}
	}
	for _, e := range wrongs() {
		if Right(e) || askedRight(e) {
			t.Errorf("P12.1: Right(%s) is %v", shown(e), Right(e))
		}
	}
	for r := rune(-1); r <= 0x11ffff; r++ {
		s := string(r)
		want := r < 0 || r >= 0x110000 || !unicode.IsControl(r)
		if Right(Entry{0, s, "c"}) != want || Right(Entry{0, "", s}) != want {
			t.Fatalf("P12.1: an entry with sign %x: Right is not %v", r, want)
		}
	}
	for x := range 256 {
		s := string([]byte{byte(x)})
		want := 0x20 <= x && x < 0x7f
		if Right(Entry{0, s, "c"}) != want || Right(Entry{0, "", s}) != want {
			t.Fatalf("P12.1: an entry with byte %x: Right is not %v", x, want)
		}
	}
	for bit := range 63 {
		for _, time := range []int{1 << bit, 1<<bit - 1, -1 << bit} {
			if e := (Entry{time, "/", "c"}); Right(e) != askedRight(e) {
				t.Errorf("P12.1: Time %d: Right is %v", time, Right(e))
			}
		}
	}
	for n := range 700 {
		if dir := (Entry{0, strings.Repeat("d", n), "c"}); Right(dir) != (n <= api.MaxDir) {
			t.Errorf("P12.1: a Dir of %d bytes: Right is %v", n, Right(dir))
		}
		if cmd := (Entry{0, "", strings.Repeat("c", n)}); Right(cmd) != (1 <= n && n <= api.MaxText) {
			t.Errorf("P12.1: a Cmd of %d bytes: Right is %v", n, Right(cmd))
		}
	}
}

func TestPack(t *testing.T) {
	b, no := Pack(Entry{0x0102030405, "/d", "ls"})
	want := []byte{10, 0, 0, 0, 0, 0, 5, 4, 3, 2, 1, 2, '/', 'd', 'l', 's'}
	binary.LittleEndian.PutUint32(want[2:], crc32.ChecksumIEEE(slices.Concat(want[:2], want[6:])))
	if !bytes.Equal(b, want) || no != api.OK {
		t.Errorf("P12.1: Pack is % x, %d, not % x", b, no, want)
	}
	for _, e := range rights() {
		for range 2 {
			if b, no := Pack(e); !bytes.Equal(b, packed(e)) || no != api.OK {
				t.Fatalf("P12.1: Pack(%s) is % .40x, %d", shown(e), b, no)
			}
			b, _ := Pack(e)
			clear(b)
		}
	}
	for _, e := range wrongs() {
		if b, no := Pack(e); b != nil || no != api.ErrJournalEntry {
			t.Errorf("P12.1: Pack(%s) is % .40x, %d", shown(e), b, no)
		}
	}
	if api.ErrJournalEntry != 120 {
		t.Error("ErrJournalEntry has another number")
	}
}

// unpacks fails where Unpack of some bytes is not as it is asked, or not so again.
func unpacks(t *testing.T, p []byte) {
	t.Helper()
	want, is := askedUnpack(p)
	given := bytes.Clone(p)
	for range 2 {
		e, told := Unpack(given)
		if e != want || told != is {
			t.Fatalf("P12.1: Unpack(% .60x, of %d bytes) is %s, %v, not %s, %v", p, len(p), shown(e), told, shown(want), is)
		}
		if !bytes.Equal(given, p) {
			t.Fatalf("R5: Unpack(% .60x) changed what it was given", p)
		}
	}
	e, _ := Unpack(given)
	for k := range given {
		given[k]++
	}
	if e != want {
		t.Fatalf("R6: Unpack(% .60x) keeps what it was given", p)
	}
}

func TestUnpack(t *testing.T) {
	long := strings.Repeat("c", 600)
	for _, x := range []struct {
		what string
		p    string
		e    Entry
		is   bool
	}{
		{"nothing", "", Entry{}, false},
		{"one byte", "\x01", Entry{}, false},
		{"five bytes", "\x01\x02\x03\x04\x05", Entry{}, false},
		{"six bytes, no Cmd", "\x01\x02\x03\x04\x05\x00", Entry{}, false},
		{"six bytes, a Dir told", "\x01\x02\x03\x04\x05\x01", Entry{}, false},
		{"seven bytes", "\x01\x02\x03\x04\x05\x00c", Entry{0x0504030201, "", "c"}, true},
		{"seven bytes, a Dir and no Cmd", "\x01\x02\x03\x04\x05\x01d", Entry{}, false},
		{"seven bytes, a Dir of two told", "\x01\x02\x03\x04\x05\x02d", Entry{}, false},
		{"a Dir and a Cmd", "\x01\x00\x00\x00\x00\x01dc", Entry{1, "d", "c"}, true},
		{"a Dir of 60 told, and 60", "\x01\x00\x00\x00\x00\x3c" + long[:60], Entry{}, false},
		{"a Dir of 60 told, and 59", "\x01\x00\x00\x00\x00\x3c" + long[:59], Entry{}, false},
		{"a Dir of 60 told, and 61", "\x01\x00\x00\x00\x00\x3c" + long[:61], Entry{1, long[:60], "c"}, true},
		{"a Dir of 61 told, and 62", "\x01\x00\x00\x00\x00\x3d" + long[:62], Entry{}, false},
		{"a Dir of 255 told, and 256", "\x01\x00\x00\x00\x00\xff" + long[:256], Entry{}, false},
		{"a Dir of 255 told, and none", "\x01\x00\x00\x00\x00\xff", Entry{}, false},
		{"a Cmd of 600", "\x00\x00\x00\x00\x00\x00" + long, Entry{0, "", long}, true},
		{"a Cmd of 601", "\x00\x00\x00\x00\x00\x00c" + long, Entry{}, false},
		{"both of the most", "\xff\xff\xff\xff\xff\x3c" + long[:60] + long, Entry{askedMost, long[:60], long}, true},
		{"a control in Dir", "\x01\x00\x00\x00\x00\x01\x1bc", Entry{}, false},
		{"a control in Cmd", "\x01\x00\x00\x00\x00\x01d\n", Entry{}, false},
		{"no sign in Dir", "\x01\x00\x00\x00\x00\x01\xffc", Entry{}, false},
		{"no sign in Cmd", "\x01\x00\x00\x00\x00\x01d\xff", Entry{}, false},
		{"a sign across Dir and Cmd", "\x01\x00\x00\x00\x00\x01\xc3\xa9", Entry{}, false},
		{"a sign in Dir", "\x01\x00\x00\x00\x00\x02\xc3\xa9c", Entry{1, "é", "c"}, true},
		{"noughts", "\x00\x00\x00\x00\x00\x00\x00", Entry{}, false},
	} {
		if e, is := Unpack([]byte(x.p)); e != x.e || is != x.is {
			t.Errorf("P12.1: %s: Unpack is %s, %v", x.what, shown(e), is)
		}
		unpacks(t, []byte(x.p))
	}
	if e, is := Unpack(nil); e != (Entry{}) || is {
		t.Errorf("P12.1: Unpack(nil) is %v, %v", e, is)
	}
	for _, e := range rights() {
		p := askedPayload(e)
		if got, is := Unpack(p); got != e || !is {
			t.Errorf("P12.1: Unpack of the payload of %s is %s, %v", shown(e), shown(got), is)
		}
		for k := range p {
			unpacks(t, p[:k])
			for _, x := range []byte{1, 0x80, 0xff} {
				other := bytes.Clone(p)
				other[k] ^= x
				unpacks(t, other)
			}
		}
		unpacks(t, append(p, 'x'))
		unpacks(t, append(p, 0))
	}
	for _, e := range wrongs() {
		if 0 <= e.Time && e.Time <= askedMost && len(e.Dir) < 256 {
			if got, is := Unpack(askedPayload(e)); got != (Entry{}) || is {
				t.Errorf("P12.1: Unpack of what would be the payload of %s is %s, %v", shown(e), shown(got), is)
			}
		}
	}
	for size := range 256 {
		for _, n := range []int{0, 1, 59, 60, 61, 255, 256, 660, 1000, 1 << 16} {
			unpacks(t, append([]byte{1, 0, 0, 0, 0, byte(size)}, strings.Repeat("x", n)...))
		}
	}
}

// two is a journal on a file system, and what is asked of them, on one of its own; no journal is open at first.
type two struct {
	t    *testing.T
	what []string
	f, g *file.Files
	j    *Journal
	a    *asked
}

func begun(t *testing.T) *two {
	return &two{t: t, f: file.New(), g: file.New()}
}

// opened is one whose journal is open.
func opened(t *testing.T) *two {
	return begun(t).do(open("h"))
}

// call is a call of either kind: what it tells, and what it should; what is told beside an error stands in a text.
type call struct {
	name string
	do   func(x *two) (told, want api.Errno, beside, too string)
}

func open(name string) call {
	return call{fmt.Sprintf("Open %+.30q", name), func(x *two) (api.Errno, api.Errno, string, string) {
		j, l, no := Open(x.f, name)
		a, m, too := askedOpen(x.g, name)
		if (j == nil) != (no != 0) {
			x.t.Fatalf("P12.2: %q: Open tells journal %v beside %d", x.what, j, no)
		}
		if no == 0 && too == 0 {
			x.j, x.a = j, a
		}
		return no, too, spoilt(l), spoilt(m)
	}}
}

// spoilt tells some entries, and writes into them, so that what shares them is told.
func spoilt(l []Entry) string {
	s := fmt.Sprint(len(l))
	for _, e := range l {
		s += fmt.Sprintf(" %d %+q %+q", e.Time, e.Dir, e.Cmd)
	}
	for k := range l[:cap(l)] {
		l[:cap(l)][k] = Entry{-9, "spoilt", "spoilt"}
	}
	return s
}

func reads() call {
	return call{"Read", func(x *two) (api.Errno, api.Errno, string, string) {
		l, no := x.j.Read()
		m, too := x.a.read()
		return no, too, spoilt(l), spoilt(m)
	}}
}

func appends(e Entry) call {
	return call{"Append " + shown(e), func(x *two) (api.Errno, api.Errno, string, string) {
		return x.j.Append(e), x.a.append(e), "", ""
	}}
}

func syncs() call {
	return call{"Sync", func(x *two) (api.Errno, api.Errno, string, string) {
		return x.j.Sync(), x.a.sync(), "", ""
	}}
}

func compacts(l ...Entry) call {
	return call{fmt.Sprintf("Compact of %d: %.60v", len(l), l), func(x *two) (api.Errno, api.Errno, string, string) {
		given := slices.Clone(l)
		no := x.j.Compact(given)
		if !slices.Equal(given, l) {
			x.t.Fatalf("R5: %q: Compact changed what it was given", x.what)
		}
		spoilt(given)
		return no, x.a.compact(l), "", ""
	}}
}

// beneath is a call of the file system alone.
func beneath(name string, do func(f *file.Files) api.Errno) call {
	return call{name, func(x *two) (api.Errno, api.Errno, string, string) {
		return do(x.f), do(x.g), "", ""
	}}
}

func writes(name string, b []byte) call {
	return beneath(fmt.Sprintf("Write %q % .20x, %d bytes", name, b, len(b)), func(f *file.Files) api.Errno { return f.Write(name, b) })
}

func removes(name string) call {
	return beneath(fmt.Sprintf("Remove %q", name), func(f *file.Files) api.Errno { return f.Remove(name) })
}

func arm(n int) call {
	return beneath(fmt.Sprint("Arm ", n), func(f *file.Files) api.Errno {
		f.Arm(n)
		return 0
	})
}

func fault(n int) call {
	return beneath(fmt.Sprint("Fault ", n), func(f *file.Files) api.Errno {
		f.Fault(n)
		return 0
	})
}

// kept is what a Crash is told: a write is kept for each 1, and lost for each 0.
func kept(s string) (keep []bool) {
	for _, r := range s {
		keep = append(keep, r == '1')
	}
	return keep
}

func crash(keep string) call {
	return beneath("Crash "+keep, func(f *file.Files) api.Errno {
		f.Crash(kept(keep))
		return 0
	})
}

// do makes some calls, and holds what each tells, and what is there behind it, against what is asked.
func (x *two) do(calls ...call) *two {
	x.t.Helper()
	for _, c := range calls {
		x.make(c)
		x.holds()
	}
	return x
}

// make makes a call, and holds what it tells against what is asked.
func (x *two) make(c call) api.Errno {
	x.t.Helper()
	x.what = append(x.what, c.name)
	told, want, beside, too := c.do(x)
	if told != want || beside != too {
		x.t.Fatalf("P12.2, P12.3: %q: the last one tells %d, %.200s, not %d, %.200s", x.what, told, beside, want, too)
	}
	return told
}

// tells fails where the last call of some does not tell an error that is named.
func (x *two) tells(want api.Errno, c call) *two {
	x.t.Helper()
	if told := x.make(c); told != want {
		x.t.Fatalf("P12.2, P12.3: %q: the last one tells %d, not %d (and so does the second telling)", x.what, told, want)
	}
	x.holds()
	return x
}

// has fails where the journal's entries are not some.
func (x *two) has(want ...Entry) *two {
	x.t.Helper()
	if l, no := x.j.Read(); !slices.Equal(l, want) || no != api.OK {
		x.t.Fatalf("P12.2: %q: Read is %.200v, %d, not %.200v", x.what, l, no, want)
	}
	return x
}

// files fails where the file system does not have some files: names and bytes in turn.
func (x *two) files(want ...string) *two {
	x.t.Helper()
	for k := 0; k < len(want); k += 2 {
		if k/2 >= len(x.f.Names()) || x.f.Names()[k/2] != want[k] {
			x.t.Fatalf("P12.2, P12.3: %q: files are %q", x.what, x.f.Names())
		}
		if b, _ := x.f.Read(want[k]); string(b) != want[k+1] {
			x.t.Fatalf("P12.2, P12.3: %q: file %q is %+.100q, not %+.100q", x.what, want[k], b, want[k+1])
		}
	}
	if len(x.f.Names()) != len(want)/2 {
		x.t.Fatalf("P12.2, P12.3: %q: files are %q", x.what, x.f.Names())
	}
	return x
}

// copy is another one, just so.
func (x *two) copy() *two {
	y := &two{t: x.t, what: slices.Clone(x.what), f: x.f.Copy(), g: x.g.Copy()}
	if x.j != nil {
		y.j, y.a = &Journal{files: y.f, name: x.j.name}, &asked{y.g, x.a.name}
	}
	return y
}

// holds fails where the two file systems are not the same, as they are, or behind a Crash.
func (x *two) holds() {
	x.t.Helper()
	x.same("", x.f, x.g)
	if x.f.Pending() == 0 && !x.f.Down() {
		return
	}
	for _, keep := range []string{"", "1", "01", "110"} {
		f, g := x.f.Copy(), x.g.Copy()
		f.Crash(kept(keep))
		g.Crash(kept(keep))
		x.same("behind Crash "+keep, f, g)
	}
}

// same fails where two file systems have not the same.
func (x *two) same(when string, f, g *file.Files) {
	x.t.Helper()
	if !slices.Equal(f.Names(), g.Names()) || f.Down() != g.Down() || f.Pending() != g.Pending() || f.Ops() != g.Ops() {
		x.t.Fatalf("P12.2, P12.3: %q: %s: files %q, down %v, %d pending, %d ops, not %q, %v, %d, %d", x.what, when, f.Names(), f.Down(), f.Pending(), f.Ops(), g.Names(), g.Down(), g.Pending(), g.Ops())
	}
	for _, name := range f.Names() {
		b, _ := f.Read(name)
		c, _ := g.Read(name)
		if !bytes.Equal(b, c) {
			x.t.Fatalf("P12.2, P12.3: %q: %s: file %q is % .100x, not % .100x", x.what, when, name, b, c)
		}
	}
}

func TestOpenErrors(t *testing.T) {
	for _, name := range []string{"", "h", strings.Repeat("n", 17)} {
		if j, l, no := Open(nil, name); j != nil || l != nil || no != api.ErrArg {
			t.Errorf("P12.2: Open(nil, %q) is %v, %v, %d", name, j, l, no)
		}
	}
	for n, want := range map[int]api.Errno{0: 101, 1: 0, 2: 0, 15: 0, 16: 0, 17: 101, 19: 101, 20: 101, 21: 101, 1 << 20: 101} {
		name := strings.Repeat("n", n)
		x := begun(t).tells(want, open(name)).files()
		if x.f.Ops() != 0 {
			t.Errorf("P12.2: Open of a name of %d bytes is %d ops", n, x.f.Ops())
		}
		if want == 0 {
			x.tells(0, appends(entry(1))).files(name, string(rows(entry(1)))).tells(0, compacts(entry(2))).files(name, string(rows(entry(2))))
		}
		down := begun(t).do(writes("a", nil), arm(0), writes("a", nil)).tells(100, open(name))
		down.do(crash("")).tells(want, open(name))
	}
	for _, name := range []string{"\x00", "\xff", "~", " ", "é", "a/b", "..", "n~", strings.Repeat("é", 8), strings.Repeat("\xff", 16)} {
		begun(t).tells(0, open(name)).do(appends(entry(1)), compacts(entry(2), entry(3)), reads(), appends(entry(4)), open(name)).has(entriesOf(2, 3, 4)...)
	}
	// A name that is none leaves a file, and the other one.
	long := strings.Repeat("n", 17)
	begun(t).do(writes(long, []byte("x")), writes(long+"~", []byte("y"))).tells(101, open(long)).files(long, "x", long+"~", "y")
	begun(t).do(writes("~", []byte("y"))).tells(101, open("")).files("~", "y")
}

// TestOpen: what a file has behind its entries goes, and what it has ahead of that stays.
func TestOpen(t *testing.T) {
	both := rows(entry(1), entry(2))
	third := packed(entry(3))
	broken := bytes.Clone(third)
	broken[len(broken)-1]++
	noEntry := askedFrame([]byte("no entry"))
	noPlain := askedFrame([]byte("\x00\x00\x00\x00\x00\x00\x1b"))
	empty := askedFrame(nil)
	for _, c := range []struct {
		what string
		b    []byte
		good int
	}{
		{"no bytes", nil, 0},
		{"two entries", both, 2},
		{"half a frame", append(bytes.Clone(both), third[:9]...), 2},
		{"one byte of a frame", append(bytes.Clone(both), third[0]), 2},
		{"all but a byte of a frame", append(bytes.Clone(both), third[:len(third)-1]...), 2},
		{"a broken frame", append(bytes.Clone(both), broken...), 2},
		{"a frame that is none of an entry", append(bytes.Clone(both), noEntry...), 2},
		{"a frame of what is not plain", append(bytes.Clone(both), noPlain...), 2},
		{"a frame of nothing", append(bytes.Clone(both), empty...), 2},
		{"a nought", append(bytes.Clone(both), 0), 2},
		{"noughts", append(bytes.Clone(both), make([]byte, 100)...), 2},
		{"noughts, and an entry", slices.Concat(both, make([]byte, len(third)), third), 2},
		{"half a frame in the midst", slices.Concat(both, third[:9], third), 2},
		{"a broken frame in the midst", slices.Concat(both, broken, third), 2},
		{"a frame that is none of an entry in the midst", slices.Concat(both, noEntry, third), 2},
		{"a frame of nothing in the midst", slices.Concat(both, empty, third), 2},
		{"the first frame broken", slices.Concat(broken, both), 0},
		{"the first frame none of an entry", slices.Concat(noEntry, both), 0},
		{"the first frame of nothing", slices.Concat(empty, both), 0},
		{"nothing but noughts", make([]byte, 50), 0},
		{"nothing but half a frame", third[:5], 0},
		{"nothing but a frame that is none of an entry", noPlain, 0},
		{"text", []byte("ls\ngit commit\n"), 0},
		{"a frame that is too long", append(bytes.Clone(both), askedFrame(make([]byte, 1001))...), 2},
		{"a frame of a Cmd that is too long", append(bytes.Clone(both), askedFrame(askedPayload(Entry{0, "", strings.Repeat("c", 601)}))...), 2},
	} {
		want := entriesOf(1, 2)[:c.good]
		left := string(rows(want...))
		for _, synced := range []bool{false, true} {
			x := begun(t).do(writes("h", c.b))
			if synced {
				x.do(beneath("Sync", func(f *file.Files) api.Errno { return f.Sync("h") }))
			}
			ops := x.f.Ops()
			x.copy().do(open("h"), appends(entry(5)), open("h")).has(append(slices.Clone(want), entry(5))...)
			x.copy().do(open("x"), open("h")).has(want...)
			x.tells(0, open("h")).has(want...).files("h", left)
			cuts := 0
			if len(left) < len(c.b) {
				cuts = 1
			}
			if x.f.Ops() != ops+cuts {
				t.Errorf("P12.2: %s: Open is %d ops", c.what, x.f.Ops()-ops)
			}
			x.tells(0, open("h")).has(want...)
			if x.f.Ops() != ops+cuts {
				t.Errorf("P12.2: %s: Open again is %d ops", c.what, x.f.Ops()-ops-cuts)
			}
			if cuts == 1 {
				x.do(crash("")).has(want...).files("h", left)
			}
		}
		// The other file goes, whatever it has; other files stay.
		x := begun(t).do(writes("h", c.b), writes("h~", both), writes("g~", both), writes("g", c.b), writes("h~~", both), writes("~h", both))
		x.copy().do(arm(0)).tells(100, open("h")).do(crash("1")).files("g", string(c.b), "g~", string(both), "h", string(c.b), "h~", string(both), "h~~", string(both), "~h", string(both))
		if len(left) < len(c.b) {
			x.copy().do(arm(1)).tells(100, open("h")).do(crash("1")).files("g", string(c.b), "g~", string(both), "h", string(c.b), "h~~", string(both), "~h", string(both)).tells(0, open("h")).has(want...)
		} else {
			x.copy().do(arm(1)).tells(0, open("h")).tells(100, appends(entry(1)))
		}
		x.copy().do(arm(2)).tells(0, open("h"))
		x.tells(0, open("h")).has(want...).files("g", string(c.b), "g~", string(both), "h", left, "h~~", string(both), "~h", string(both))
	}
}

// TestOpenWithoutFile: none is made, and the other one goes.
func TestOpenWithoutFile(t *testing.T) {
	x := begun(t).do(open("h"), open("h"), reads()).files()
	if x.f.Ops() != 0 {
		t.Errorf("P12.2: Open without a file is %d ops", x.f.Ops())
	}
	begun(t).do(arm(0)).tells(0, open("h")).tells(0, reads())
	x = begun(t).do(writes("h~", rows(entry(1)))).tells(0, open("h")).has().files()
	if x.f.Ops() != 2 {
		t.Errorf("P12.2: Open with another file left behind is %d ops", x.f.Ops()-1)
	}
	begun(t).do(writes("h~", rows(entry(1))), arm(0)).tells(100, open("h")).do(crash("1")).files("h~", string(rows(entry(1))))
	begun(t).do(fault(0)).tells(0, open("h")).tells(102, appends(entry(1)))
}

func TestRead(t *testing.T) {
	x := opened(t).tells(0, reads()).has().files()
	x.do(appends(entry(1)), appends(entry(2))).has(entriesOf(1, 2)...)
	// As they stand in the file, whoever wrote there; what is none stays.
	x.do(writes("h", packed(entry(3)))).has(entriesOf(1, 2, 3)...)
	x.do(writes("h", []byte{9})).has(entriesOf(1, 2, 3)...).do(appends(entry(4))).has(entriesOf(1, 2, 3)...)
	x.files("h", string(slices.Concat(rows(entriesOf(1, 2, 3)...), []byte{9}, packed(entry(4)))))
	x.copy().do(open("h")).has(entriesOf(1, 2, 3)...).do(appends(entry(5))).has(entriesOf(1, 2, 3, 5)...)
	x.copy().do(removes("h")).tells(0, reads()).has()
	ops := x.f.Ops()
	x.do(reads(), reads())
	if x.f.Ops() != ops {
		t.Errorf("P12.2: two Reads are %d ops", x.f.Ops()-ops)
	}
	x.do(arm(0)).tells(0, reads()).tells(100, syncs()).tells(100, reads())
	if l, no := x.j.Read(); l != nil || no != 100 {
		t.Errorf("P12.2: Read, when it is down, is %v, %d", l, no)
	}
	opened(t).do(writes("g", nil), arm(0), removes("g")).tells(100, reads()).do(crash("")).tells(0, reads())
	begun(t).do(writes("h", []byte("none"))).do(open("h")).has().files("h", "")
}

func TestAppend(t *testing.T) {
	x := opened(t)
	for _, e := range wrongs() {
		x.tells(120, appends(e))
	}
	x.files()
	if x.f.Ops() != 0 {
		t.Errorf("P12.3: Appends of what is no entry are %d ops", x.f.Ops())
	}
	for k, e := range rights() {
		x.tells(0, appends(e)).has(rights()[:k+1]...)
		if x.f.Ops() != k+1 || x.f.Pending() != k+1 {
			t.Errorf("P12.3: %d Appends are %d ops, %d pending", k+1, x.f.Ops(), x.f.Pending())
		}
	}
	x.files("h", string(rows(rights()...)))
	for _, e := range wrongs() {
		x.tells(120, appends(e))
	}
	x.has(rights()...)
	// Down: the entry's error is named first.
	down := x.copy().do(arm(0)).tells(100, appends(entry(1))).tells(100, appends(entry(2))).tells(120, appends(Entry{}))
	down.copy().do(crash("1")).has(append(rights(), entry(1))...)
	down.copy().do(crash("")).has().files("h", "")
	// What faults is not written, and leaves the file as it was.
	x.do(fault(0)).tells(120, appends(Entry{})).tells(102, appends(entry(1))).has(rights()...).tells(0, appends(entry(2))).has(append(rights(), entry(2))...)
	opened(t).do(fault(0)).tells(102, appends(entry(1))).files().tells(0, appends(entry(2))).has(entry(2))
	opened(t).do(arm(0), fault(0)).tells(100, appends(entry(1))).do(crash("1")).files()
}

func TestAppendNoRoom(t *testing.T) {
	e := entry(1)
	size := len(packed(e))
	full := make([]byte, api.MaxFile)
	opened(t).do(writes("h", full[size:])).tells(0, appends(e)).tells(103, appends(e)).tells(103, appends(e))
	x := opened(t).do(writes("h", full[size-1:])).tells(103, appends(e)).files("h", string(full[size-1:]))
	x.tells(120, appends(Entry{})).tells(0, syncs()).do(open("h")).tells(0, appends(e)).has(e)
	x = opened(t)
	long := Entry{1, "/", strings.Repeat("c", 600)}
	n := api.MaxFile / len(packed(long))
	for range n {
		x.make(appends(long))
	}
	x.has(slices.Repeat([]Entry{long}, n)...).tells(103, appends(long)).tells(0, appends(e)).has(append(slices.Repeat([]Entry{long}, n), e)...)
	x.tells(0, syncs()).tells(0, compacts(e)).has(e).tells(0, appends(long)).has(e, long)
	// No room for another file.
	y := opened(t)
	for k := range api.MaxFiles {
		y.do(writes(fmt.Sprint(k), nil))
	}
	y.tells(101, appends(e)).tells(0, syncs()).tells(0, reads()).has().tells(101, compacts(e)).do(removes("3")).tells(0, appends(e)).has(e)
}

func TestSync(t *testing.T) {
	x := opened(t).tells(0, syncs()).files()
	if x.f.Ops() != 0 {
		t.Errorf("P12.3: Sync without a file is %d ops", x.f.Ops())
	}
	x.copy().do(arm(0)).tells(0, syncs()).tells(100, appends(entry(1))).tells(100, syncs())
	x.copy().do(writes("g", nil), arm(0), removes("g")).tells(100, syncs()).do(crash("")).tells(0, syncs())
	x.do(appends(entry(1)), appends(entry(2)), writes("g", []byte("x"))).tells(0, syncs())
	if x.f.Ops() != 4 || x.f.Pending() != 1 {
		t.Errorf("P12.3: Sync: %d ops, %d pending", x.f.Ops(), x.f.Pending())
	}
	x.do(appends(entry(3)), crash("")).has(entriesOf(1, 2)...).files("g", "", "h", string(rows(entriesOf(1, 2)...)))
	x.do(appends(entry(4)), arm(0)).tells(100, syncs()).do(crash("")).has(entriesOf(1, 2)...)
	x.do(appends(entry(4)), fault(0)).tells(0, syncs()).do(crash("")).has(entriesOf(1, 2, 4)...)
}

func TestCompact(t *testing.T) {
	old := opened(t).do(appends(entry(1)), appends(entry(2)), syncs(), appends(entry(3)))
	for n := range 5 {
		l := entriesOf(5, 6, 7, 8)[:n]
		for _, left := range [][]byte{nil, {}, rows(entry(9)), []byte("none")} {
			x, others := old.copy(), 0
			if left != nil {
				x.do(writes("h~", left))
				others = 1
			}
			ops := x.f.Ops()
			x.tells(0, compacts(l...)).has(l...).files("h", string(rows(l...)))
			if x.f.Ops() != ops+max(n, 1)+2+others || x.f.Pending() != 0 {
				t.Errorf("P12.3: a Compact of %d is %d ops, %d pending", n, x.f.Ops()-ops, x.f.Pending())
			}
			x.copy().do(crash("")).has(l...)
			x.tells(0, compacts()).files("h", "").tells(0, appends(entry(4))).tells(0, compacts(entry(4), entry(4))).has(entry(4), entry(4))
		}
	}
	opened(t).tells(0, compacts()).files("h", "").has()
	opened(t).tells(0, compacts(rights()...)).files("h", string(rows(rights()...))).has(rights()...).do(crash(""), open("h")).has(rights()...)
	// In order, not in that of Times, and each as often as it is told.
	opened(t).tells(0, compacts(entriesOf(3, 1, 2, 1)...)).has(entriesOf(3, 1, 2, 1)...)
}

// TestCompactWrong: one that is not right, among others, and nothing has changed; it is named ahead of what the file system tells.
func TestCompactWrong(t *testing.T) {
	x := opened(t).do(appends(entry(1)), writes("h~", []byte("left")))
	ops := x.f.Ops()
	for _, e := range wrongs() {
		for at := range 4 {
			x.make(compacts(slices.Insert(entriesOf(5, 6, 7), at, e)...))
			x.tells(120, compacts(slices.Insert(entriesOf(5, 6, 7), at, e)...))
		}
		x.tells(120, compacts(e))
	}
	x.files("h", string(rows(entry(1))), "h~", "left")
	if x.f.Ops() != ops {
		t.Errorf("P12.3: Compacts of what is no entry are %d ops", x.f.Ops()-ops)
	}
	x.do(arm(0)).tells(120, compacts(entry(5), Entry{})).tells(100, compacts(entry(5))).tells(120, compacts(Entry{})).tells(100, compacts())
}

// TestCompactFaults: a write that fails takes the other file with it; the old entries stay.
func TestCompactFaults(t *testing.T) {
	was := string(rows(entriesOf(1, 2)...))
	for _, left := range []bool{false, true} {
		x := opened(t).do(appends(entry(1)), syncs(), appends(entry(2)))
		if left {
			x.do(writes("h~", []byte("left")))
		}
		for n := range 4 {
			l := entriesOf(5, 6, 7)[:n]
			for at := range max(n, 1) {
				y := x.copy().do(fault(at)).tells(102, compacts(l...)).has(entriesOf(1, 2)...).files("h", was)
				y.copy().do(crash("")).has(entry(1))
				y.tells(0, compacts(l...)).has(l...)
			}
			x.copy().do(fault(max(n, 1))).tells(0, compacts(l...)).has(l...).tells(102, appends(entry(9)))
		}
		// What is armed brings it down as the other file is removed; what broke the Compact off is told.
		first := 1
		if left {
			first = 2
		}
		y := x.copy().do(fault(1), arm(first+1)).tells(102, compacts(entriesOf(5, 6)...))
		if !y.f.Down() {
			t.Errorf("P12.3: %q: the file system is not down", y.what)
		}
		y.do(crash("1")).files("h", was, "h~", string(rows(entry(5)))).do(open("h")).files("h", was)
		// Both at once: it is down, and the other file stays.
		x.copy().do(fault(1), arm(first)).tells(100, compacts(entriesOf(5, 6)...)).do(crash("1")).files("h", was, "h~", string(rows(entry(5)))).do(open("h")).files("h", was)
	}
}

func TestCompactNoRoom(t *testing.T) {
	long := Entry{1, "/", strings.Repeat("c", 600)}
	n := api.MaxFile / len(packed(long))
	x := opened(t).do(appends(entry(1)), syncs())
	x.tells(103, compacts(slices.Repeat([]Entry{long}, n+1)...)).files("h", string(packed(entry(1))))
	x.do(writes("h~", []byte("left"))).tells(103, compacts(slices.Repeat([]Entry{long}, n+1)...)).files("h", string(packed(entry(1))))
	x.tells(103, compacts(slices.Repeat([]Entry{long}, 5000)...)).has(entry(1))
	x.tells(0, compacts(slices.Repeat([]Entry{long}, n)...)).has(slices.Repeat([]Entry{long}, n)...).tells(103, appends(long))
	// Without room for another file nothing is written, and nothing is removed.
	x = opened(t).do(appends(entry(1)), syncs(), appends(entry(2)))
	for k := range api.MaxFiles - 1 {
		x.do(writes(fmt.Sprint(k), []byte("x")))
	}
	ops := x.f.Ops()
	x.tells(101, compacts(entry(5))).tells(101, compacts()).has(entriesOf(1, 2)...)
	if x.f.Ops() != ops {
		t.Errorf("P12.3: a Compact without room for another file is %d ops", x.f.Ops()-ops)
	}
	x.copy().do(removes("3")).tells(0, compacts(entry(5))).has(entry(5))
	// Where the other one is there already, its place is there when it is gone.
	x.do(removes("3"), writes("h~", []byte("left"))).tells(0, compacts(entry(5))).has(entry(5))
	if len(x.f.Names()) != api.MaxFiles-1 {
		t.Errorf("P12.3: files are %q", x.f.Names())
	}
}

// keeps is what Crashes are told: all rows of up to that many.
func keeps(n int) []string {
	l := []string{""}
	for at := 0; at < len(l); at++ {
		if len(l[at]) < n {
			l = append(l, l[at]+"0", l[at]+"1")
		}
	}
	return l
}

// TestCompactBrokenOff: at each op, with what is kept or not, there are the old entries, or the new ones.
func TestCompactBrokenOff(t *testing.T) {
	for _, left := range []bool{false, true} {
		old := opened(t).do(appends(entry(1)), appends(entry(2)), syncs())
		if left {
			old.do(writes("h~", rows(entriesOf(8, 9)...)))
		}
		for n := range 4 {
			l := entriesOf(5, 6, 7)[:n]
			whole := old.copy().do(compacts(l...))
			ops := whole.f.Ops() - old.f.Ops()
			for at := range ops + 1 {
				x := old.copy().do(arm(at))
				told := x.make(compacts(l...))
				x.holds()
				want := l
				if at < ops {
					want = entriesOf(1, 2)
				}
				if (told == 0) != (at == ops) || told != 0 && told != 100 {
					t.Fatalf("P12.3: %q: told %d", x.what, told)
				}
				for _, keep := range keeps(5) {
					y := x.copy().do(crash(keep)).has(want...)
					y.do(open("h")).has(want...).files("h", string(rows(want...)))
					y.do(appends(entry(4)), syncs(), crash(""), open("h")).has(append(slices.Clone(want), entry(4))...)
				}
			}
		}
	}
}

// TestCompactBrokenOffUnsynced: of the old entries that were not synced a beginning is left, at least.
func TestCompactBrokenOffUnsynced(t *testing.T) {
	old := opened(t).do(appends(entry(1)), syncs(), appends(entry(2)), appends(entry(3)))
	l := entriesOf(5, 6)
	for at := range 5 {
		x := old.copy().do(arm(at))
		told := x.make(compacts(l...))
		for _, keep := range keeps(5) {
			y := x.copy().do(crash(keep))
			got, _ := y.j.Read()
			olds := entriesOf(1, 2, 3)
			if told == 0 && !slices.Equal(got, l) || told != 0 && (len(got) == 0 || !slices.Equal(got, olds[:len(got)])) {
				t.Fatalf("P12.4: %q: entries are %v", y.what, got)
			}
			y.do(open("h")).has(got...)
		}
	}
}

// scripts is calls of all kinds, for all scripts of them.
func scripts() []call {
	return []call{
		open("h"), appends(entry(1)), appends(entry(2)), appends(Entry{Time: -1, Cmd: "x"}), syncs(), reads(), compacts(), compacts(entriesOf(3, 4)...), compacts(entry(3), Entry{}),
		writes("h", packed(entry(5))[:8]), writes("h~", packed(entry(6))), removes("h"), arm(0), arm(1), arm(2), fault(0), fault(1), crash("1"), crash("01"), crash(""),
	}
}

// TestScripts: all scripts of up to three calls, each on a copy of what was ahead of it.
func TestScripts(t *testing.T) {
	calls := scripts()
	var goOn func(x *two, left int)
	goOn = func(x *two, left int) {
		if left == 0 {
			return
		}
		for _, c := range calls {
			goOn(x.copy().do(c), left-1)
		}
		x.holds()
	}
	goOn(opened(t), 3)
	// And ones that have more ahead of them.
	goOn(opened(t).do(appends(entry(7)), appends(entry(8)), syncs(), appends(entry(9)), writes("g", []byte("x")), writes("h~", packed(entry(6)))), 3)
	goOn(opened(t).do(compacts(entriesOf(7, 8)...), appends(entry(9)), writes("h", askedFrame([]byte("none"))), fault(1), arm(3)), 3)
}

// anyNumber is a row of numbers that looks like none.
func anyNumber(seed uint32) func(n int) int {
	return func(n int) int {
		seed = seed*1664525 + 1013904223
		return int(seed>>8) % n
	}
}

// anyEntry is one of any kind; now and then it is not right.
func anyEntry(number func(n int) int) Entry {
	switch number(12) {
	case 0:
		return wrongs()[number(len(wrongs()))]
	case 1:
		return rights()[number(len(rights()))]
	}
	return entry(number(1000))
}

// anyCall is one of any kind.
func anyCall(number func(n int) int) call {
	name := []string{"h", "h~", "g", "n", "nnnnnnnnnnnnnnnn"}[number(5)]
	switch number(20) {
	default:
		return appends(anyEntry(number))
	case 0, 1, 2:
		return syncs()
	case 3, 4:
		return reads()
	case 5, 6:
		l := []Entry{}
		for range number(6) {
			l = append(l, entry(number(1000)))
		}
		if number(5) == 0 {
			l = append(l, anyEntry(number))
		}
		return compacts(l...)
	case 7:
		return open(name)
	case 8:
		return open([]string{"", "h", "nnnnnnnnnnnnnnnnn"}[number(3)])
	case 9:
		b := packed(entry(number(1000)))
		return writes(name, b[:number(len(b)+1)])
	case 10:
		return writes(name, slices.Repeat([]byte{byte(number(256))}, []int{0, 1, 30, 20000, 65000}[number(5)]))
	case 11:
		return removes(name)
	case 12:
		return arm(number(12) - 2)
	case 13:
		return fault(number(6) - 1)
	case 14, 15:
		return crash(keeps(5)[number(63)])
	}
}

func TestLongScripts(t *testing.T) {
	for seed := range uint32(60) {
		number := anyNumber(seed)
		x := opened(t)
		for range 200 {
			x.do(anyCall(number))
		}
	}
}

// TestWhatWasSynced: behind each Crash there are the entries that were synced, and a beginning of those that were not; opened, opened again, and gone on with.
func TestWhatWasSynced(t *testing.T) {
	for seed := range uint32(400) {
		number := anyNumber(seed + 5000)
		f := file.New()
		var synced, owed []Entry
		var what []string
		j, _, _ := Open(f, "h")
		for k := range 80 {
			switch number(8) {
			default:
				no := j.Append(entry(k))
				// One that brings it down may be kept, too.
				if no == api.OK || no == api.ErrFileDown {
					owed = append(owed, entry(k))
				}
				what = append(what, fmt.Sprint("Append ", k, ": ", no))
			case 0:
				no := j.Sync()
				if no == api.OK {
					synced, owed = append(synced, owed...), nil
				}
				what = append(what, fmt.Sprint("Sync: ", no))
			case 1:
				f.Arm(number(9))
			case 2:
				f.Fault(number(4))
			case 3:
				l := entriesOf(1000+k, 2000+k, 3000+k)[:number(4)]
				no := j.Compact(l)
				if no == api.OK {
					synced, owed = l, nil
				}
				what = append(what, fmt.Sprint("Compact of ", len(l), ": ", no))
			}
			if !f.Down() && number(10) > 0 {
				continue
			}
			keep := keeps(6)[number(127)]
			f.Crash(kept(keep))
			what = append(what, "Crash "+keep)
			l, no := j.Read()
			if all := append(slices.Clone(synced), owed...); no != api.OK || len(l) < len(synced) || len(l) > len(all) || !slices.Equal(l, all[:len(l)]) {
				t.Fatalf("P12.4: %q: Read is %v, %d; synced were %v, and then came %v", what, l, no, synced, owed)
			}
			for range 2 {
				again, m, no := Open(f, "h")
				if b, _ := f.Read("h"); no != api.OK || !slices.Equal(m, l) || !bytes.Equal(b, rows(l...)) {
					t.Fatalf("P12.4: %q: Open's entries are %v, %d, not %v", what, m, no, l)
				}
				j = again
			}
			// What is there behind a Crash is lost no more.
			synced, owed = l, nil
		}
	}
}

// TestOwn: what was told, and what was handed in, is written into, and the journal's entries are as they were.
func TestOwn(t *testing.T) {
	f := file.New()
	j, _, _ := Open(f, "h")
	given := entriesOf(1, 2, 3)
	j.Compact(given)
	clear(given)
	want := entriesOf(1, 2, 3)
	for range 2 {
		l, _ := j.Read()
		if !slices.Equal(l, want) {
			t.Errorf("R6: Read is %v", l)
		}
		clear(l)
		_ = append(l[:1], entry(9), entry(9))
		_, l, _ = Open(f, "h")
		if !slices.Equal(l, want) {
			t.Errorf("R6: Open's entries are %v", l)
		}
		clear(l)
	}
	// Two journals of one file, and one of another name, each tell what is there.
	k, _, _ := Open(f, "h")
	other, l, _ := Open(f, "g")
	if len(l) != 0 {
		t.Errorf("P12.2: another journal's entries are %v", l)
	}
	k.Append(entry(4))
	other.Append(entry(5))
	if l, _ := j.Read(); !slices.Equal(l, entriesOf(1, 2, 3, 4)) {
		t.Errorf("P12.2: Read is %v", l)
	}
	if l, _ := other.Read(); !slices.Equal(l, entriesOf(5)) {
		t.Errorf("P12.2: another journal's Read is %v", l)
	}
}

// TestManyEntries: as many as a file has room for, and a Compact of far more.
func TestManyEntries(t *testing.T) {
	e := Entry{7, "", "c"}
	n := api.MaxFile / len(packed(e))
	f := file.New()
	j, _, _ := Open(f, "h")
	if no := j.Compact(slices.Repeat([]Entry{e}, n)); no != api.OK {
		t.Errorf("P12.3: a Compact of %d entries is %d", n, no)
	}
	if l, no := j.Read(); len(l) != n || no != api.OK {
		t.Errorf("P12.2: of %d entries there are %d, %d", n, len(l), no)
	}
	if no := j.Compact(slices.Repeat([]Entry{e}, 200000)); no != api.ErrFileFull {
		t.Errorf("P12.3: a Compact of 200000 entries is %d", no)
	}
	if _, l, no := Open(f, "h"); len(l) != n || no != api.OK || !slices.Equal(f.Names(), []string{"h"}) {
		t.Errorf("P12.3: behind it there are %d, %d, files %q", len(l), no, f.Names())
	}
}
