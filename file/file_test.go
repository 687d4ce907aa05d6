package file

import (
	"bytes"
	"cmp"
	"fmt"
	"math"
	"slices"
	"strings"
	"testing"

	"souffleur/api"
)

// What is named "asked" tells what the chapter asks a second time and by other means: a file is a list of parts, each of which knows whether it may be lost, and what goes wrong has the number of the op that it is.

type askedPart struct {
	b    string
	owed bool
}

type askedFile struct {
	name  string
	parts []*askedPart
}

type asked struct {
	files       []*askedFile
	row         []*askedPart
	ops, writes uint64
	// Which op goes wrong, and which Write; counted from 1, and 0 is none.
	downAt, faultAt uint64
	down            bool
}

func (a *asked) find(name string) *askedFile {
	for _, x := range a.files {
		if x.name == name {
			return x
		}
	}
	return nil
}

func (x *askedFile) text() string {
	var whole strings.Builder
	for _, p := range x.parts {
		whole.WriteString(p.b)
	}
	return whole.String()
}

func askedIsName(name string) bool {
	return 1 <= len(name) && len(name) <= 20
}

// op counts one, and says what it tells.
func (a *asked) op() api.Errno {
	a.ops++
	if a.ops == a.downAt {
		a.down = true
		return 100
	}
	return 0
}

func (a *asked) write(name, b string) api.Errno {
	x := a.find(name)
	if a.down {
		return 100
	}
	if !askedIsName(name) || x == nil && len(a.files) == 8 {
		return 101
	}
	if x == nil && len(b) > 65536 || x != nil && len(x.text())+len(b) > 65536 {
		return 103
	}
	a.writes++
	told := a.op()
	if a.writes == a.faultAt {
		return cmp.Or(told, 102)
	}
	if x == nil {
		x = &askedFile{name: name}
		a.files = append(a.files, x)
	}
	p := &askedPart{b: b, owed: true}
	x.parts, a.row = append(x.parts, p), append(a.row, p)
	return told
}

// owesNone takes what a file owes out of the row.
func (a *asked) owesNone(x *askedFile) {
	for _, p := range x.parts {
		p.owed = false
	}
	var row []*askedPart
	for _, p := range a.row {
		if p.owed {
			row = append(row, p)
		}
	}
	a.row = row
}

// drop takes a file away.
func (a *asked) drop(x *askedFile) {
	a.owesNone(x)
	var left []*askedFile
	for _, y := range a.files {
		if y != x {
			left = append(left, y)
		}
	}
	a.files = left
}

func (a *asked) sync(name string) api.Errno {
	x := a.find(name)
	if a.down {
		return 100
	}
	if x == nil {
		return 101
	}
	told := a.op()
	if told == 0 {
		a.owesNone(x)
	}
	return told
}

func (a *asked) rename(from, to string) api.Errno {
	x, y := a.find(from), a.find(to)
	if a.down {
		return 100
	}
	if x == nil || !askedIsName(to) {
		return 101
	}
	told := a.op()
	if told == 0 && x != y {
		if y != nil {
			a.drop(y)
		}
		x.name = to
	}
	return told
}

func (a *asked) remove(name string) api.Errno {
	x := a.find(name)
	if a.down {
		return 100
	}
	if x == nil {
		return 101
	}
	told := a.op()
	if told == 0 {
		a.drop(x)
	}
	return told
}

func (a *asked) cut(name string, n int) api.Errno {
	x := a.find(name)
	if a.down {
		return 100
	}
	if x == nil {
		return 101
	}
	told := a.op()
	if told == 0 {
		a.owesNone(x)
		whole := x.text()
		for n < 0 {
			n = 0
		}
		if n < len(whole) {
			whole = whole[:n]
		}
		x.parts = []*askedPart{{b: whole}}
	}
	return told
}

func (a *asked) arm(n int) {
	a.downAt = 0
	if n >= 0 {
		a.downAt = a.ops + uint64(n) + 1
	}
}

func (a *asked) fault(n int) {
	a.faultAt = 0
	if n >= 0 {
		a.faultAt = a.writes + uint64(n) + 1
	}
}

func (a *asked) crash(keep []bool) {
	rest := keep
	for _, p := range a.row {
		if len(rest) == 0 {
			rest = keep
		}
		if len(rest) > 0 {
			p.owed = !rest[0]
			rest = rest[1:]
		}
	}
	for _, x := range a.files {
		end := len(x.parts)
		for end > 0 && (x.parts[end-1].owed || x.parts[end-1].b == "") {
			end--
		}
		x.parts = x.parts[:end]
		for _, p := range x.parts {
			if p.owed {
				p.b, p.owed = strings.Repeat("\x00", len(p.b)), false
			}
		}
	}
	a.row, a.down, a.downAt, a.faultAt = nil, false, 0, 0
}

func (a *asked) copy() *asked {
	b := *a
	b.files, b.row = nil, nil
	twin := map[*askedPart]*askedPart{}
	for _, x := range a.files {
		y := &askedFile{name: x.name}
		for _, p := range x.parts {
			q := *p
			twin[p] = &q
			y.parts = append(y.parts, &q)
		}
		b.files = append(b.files, y)
	}
	for _, p := range a.row {
		b.row = append(b.row, twin[p])
	}
	return &b
}

func (a *asked) names() []string {
	var l []string
	for _, x := range a.files {
		l = append(l, x.name)
	}
	slices.SortFunc(l, func(x, y string) int { return cmp.Compare(x, y) })
	return l
}

// two is a file system, and what is asked of it.
type two struct {
	t    *testing.T
	what []string
	f    *Files
	a    *asked
}

func begun(t *testing.T) *two {
	return &two{t: t, f: New(), a: &asked{}}
}

func (x *two) copy() *two {
	return &two{t: x.t, what: slices.Clip(x.what), f: x.f.Copy(), a: x.a.copy()}
}

// call is a call of either kind: what it tells, and what it should.
type call struct {
	name string
	do   func(x *two) (told, want api.Errno)
}

func writes(name, b string) call {
	return call{fmt.Sprintf("Write %+.30q %d bytes", name, len(b)), func(x *two) (api.Errno, api.Errno) {
		given := []byte(b)
		told := x.f.Write(name, given)
		if string(given) != b {
			x.t.Fatalf("R5: %s: a Write changed what it was given", x.what)
		}
		// What was handed in is written into, so that what keeps it is told.
		for k := range given {
			given[k] = '!'
		}
		return told, x.a.write(name, b)
	}}
}

func syncs(name string) call {
	return call{fmt.Sprintf("Sync %+.30q", name), func(x *two) (api.Errno, api.Errno) {
		return x.f.Sync(name), x.a.sync(name)
	}}
}

func rename(from, to string) call {
	return call{fmt.Sprintf("Rename %+.30q %+.30q", from, to), func(x *two) (api.Errno, api.Errno) {
		return x.f.Rename(from, to), x.a.rename(from, to)
	}}
}

func remove(name string) call {
	return call{fmt.Sprintf("Remove %+.30q", name), func(x *two) (api.Errno, api.Errno) {
		return x.f.Remove(name), x.a.remove(name)
	}}
}

func cut(name string, n int) call {
	return call{fmt.Sprintf("Cut %+.30q %d", name, n), func(x *two) (api.Errno, api.Errno) {
		return x.f.Cut(name, n), x.a.cut(name, n)
	}}
}

func arm(n int) call {
	return call{fmt.Sprint("Arm ", n), func(x *two) (api.Errno, api.Errno) {
		x.f.Arm(n)
		x.a.arm(n)
		return 0, 0
	}}
}

func fault(n int) call {
	return call{fmt.Sprint("Fault ", n), func(x *two) (api.Errno, api.Errno) {
		x.f.Fault(n)
		x.a.fault(n)
		return 0, 0
	}}
}

// crash keeps a write for each 1, and loses one for each 0.
func crash(kept string) call {
	return call{"Crash " + kept, func(x *two) (api.Errno, api.Errno) {
		var keep []bool
		for _, r := range kept {
			keep = append(keep, r == '1')
		}
		given := slices.Clone(keep)
		x.f.Crash(given)
		if !slices.Equal(given, keep) {
			x.t.Fatalf("R5: %s: a Crash changed what it was given", x.what)
		}
		x.a.crash(keep)
		return 0, 0
	}}
}

// do makes some calls, and holds what each tells, and what is there behind it, against what is asked.
func (x *two) do(calls ...call) *two {
	x.t.Helper()
	for _, c := range calls {
		x.what = append(x.what, c.name)
		if told, want := c.do(x); told != want {
			x.t.Fatalf("P10.2, P10.3: %q: the last one tells %d, not %d", x.what, told, want)
		}
		x.holds()
	}
	return x
}

// tells fails where the last call of some does not tell an error that is named.
func (x *two) tells(want api.Errno, c call) *two {
	x.t.Helper()
	x.what = append(x.what, c.name)
	if told, too := c.do(x); told != want || too != want {
		x.t.Fatalf("P10.2, P10.3: %q: the last one tells %d, not %d (the second telling: %d)", x.what, told, want, too)
	}
	x.holds()
	return x
}

// has fails where a file does not have some bytes.
func (x *two) has(name, want string) *two {
	x.t.Helper()
	if b, e := x.f.Read(name); string(b) != want || e != api.OK {
		x.t.Fatalf("P10.1: %q: Read of %+q is %+.60q, %d, not %+.60q", x.what, name, b, e, want)
	}
	return x
}

// holds fails where a file system is not as it is asked, or not so again.
func (x *two) holds() {
	x.t.Helper()
	names := x.a.names()
	for range 2 {
		if l := x.f.Names(); !slices.Equal(l, names) {
			x.t.Fatalf("P10.1: %q: Names are %+q, not %+q", x.what, l, names)
		}
		if n := x.f.Pending(); n != len(x.a.row) {
			x.t.Fatalf("P10.1: %q: %d are pending, not %d", x.what, n, len(x.a.row))
		}
		if n := x.f.Ops(); uint64(n) != x.a.ops {
			x.t.Fatalf("P10.1: %q: %d ops, not %d", x.what, n, x.a.ops)
		}
		if is := x.f.Down(); is != x.a.down {
			x.t.Fatalf("P10.3: %q: Down is %v", x.what, is)
		}
		for _, name := range append(names, "", "none", strings.Repeat("n", 21)) {
			x.reads(name)
		}
	}
}

// reads fails where a file's bytes are not as they are asked; it writes into those that are told.
func (x *two) reads(name string) {
	x.t.Helper()
	b, e := x.f.Read(name)
	y := x.a.find(name)
	want, wrong := "", api.OK
	switch {
	case x.a.down:
		wrong = 100
	case y == nil:
		wrong = 101
	default:
		want = y.text()
	}
	if string(b) != want || e != wrong {
		x.t.Fatalf("P10.1: %q: Read of %+q is %+.60q, %d, not %+.60q, %d", x.what, name, b, e, want, wrong)
	}
	for k := range b[:cap(b)] {
		b[:cap(b)][k] = '?'
	}
}

func TestExample(t *testing.T) {
	f := New()
	if e := f.Write("a", []byte{1}); e != api.OK {
		t.Errorf("P10.2: Write is %d", e)
	}
	if e := f.Write("a", []byte{2}); e != api.OK {
		t.Errorf("P10.2: Write is %d", e)
	}
	f.Crash([]bool{false, true})
	if b, e := f.Read("a"); !bytes.Equal(b, []byte{0, 2}) || e != api.OK {
		t.Errorf("P10.3: Read is % x, %d", b, e)
	}
}

func TestNew(t *testing.T) {
	f := New()
	if l, p, o := f.Names(), f.Pending(), f.Ops(); len(l) != 0 || p != 0 || o != 0 || f.Down() {
		t.Errorf("P10.1: New has %q, %d pending, %d ops, down %v", l, p, o, f.Down())
	}
	x := begun(t)
	x.holds()
	for _, name := range []string{"", "a", strings.Repeat("a", 20), strings.Repeat("a", 21)} {
		x.tells(101, syncs(name)).tells(101, remove(name)).tells(101, cut(name, 0)).tells(101, rename(name, "b")).tells(101, rename(name, name))
	}
	x.do(crash(""), crash("1"), crash("01"))
	x.copy().do(writes("a", "1"))
	x.do(writes("b", "2"))
	begun(t).holds()
}

func TestNames(t *testing.T) {
	for _, c := range []struct {
		name string
		is   bool
	}{
		{"", false}, {"a", true}, {strings.Repeat("a", 19), true}, {strings.Repeat("a", 20), true}, {strings.Repeat("a", 21), false}, {strings.Repeat("a", 1<<20), false},
		{" ", true}, {"\x00", true}, {"\xff", true}, {"\n", true}, {"~", true}, {"a/b", true}, {"..", true}, {"é中", true},
		{strings.Repeat("é", 10), true}, {strings.Repeat("é", 10) + "a", false}, {strings.Repeat("\xff", 20), true}, {strings.Repeat("\xff", 21), false},
	} {
		want := api.ErrFileName
		if c.is {
			want = api.OK
		}
		begun(t).tells(want, writes(c.name, "x")).do(writes(c.name, "y"), syncs(c.name), cut(c.name, 1), rename(c.name, "b"), remove(c.name))
		begun(t).do(writes("x", "1")).tells(want, rename("x", c.name)).do(syncs(c.name), rename(c.name, "x"), remove("x"))
		begun(t).tells(want, writes(c.name, "")).do(remove(c.name))
	}
	x := begun(t).do(writes("b", "1"), writes("a", "2"), writes("\xff", "3"), writes("B", "4"), writes("ab", "5"), writes("é", "6"), writes("\x00", "7"), writes(" ", "8"))
	if l := x.f.Names(); !slices.Equal(l, []string{"\x00", " ", "B", "a", "ab", "b", "é", "\xff"}) {
		t.Errorf("P10.1: Names are %+q", l)
	}
}

func TestMaxFiles(t *testing.T) {
	x := begun(t)
	for k := range api.MaxFiles {
		x.tells(0, writes(fmt.Sprint("f", k), "x"))
	}
	x.tells(101, writes("g", "x")).tells(101, writes("g", "")).tells(101, writes("g", strings.Repeat("x", api.MaxFile+1)))
	x.tells(0, writes("f0", "y")).tells(0, writes("f7", "y"))
	x.copy().tells(0, remove("f3")).tells(0, writes("g", "x")).tells(101, writes("f3", "x"))
	x.copy().tells(0, rename("f3", "f4")).tells(0, writes("f3", "x")).tells(101, writes("g", "x"))
	x.copy().tells(0, rename("f3", "g")).tells(101, writes("f3", "x")).tells(0, writes("g", "x"))
	x.copy().tells(0, rename("f3", "f3")).tells(101, writes("g", "x"))
	x.copy().do(crash("")).tells(101, writes("g", "x")).tells(0, writes("f0", "x"))
	x.copy().do(fault(0)).tells(101, writes("g", "x")).tells(102, writes("f0", "x"))
	x.do(remove("f5"), fault(0)).tells(102, writes("g", "x")).tells(0, writes("h", "x")).tells(101, writes("g", "x"))
}

func TestMaxFile(t *testing.T) {
	full, most := strings.Repeat("x", api.MaxFile+1), strings.Repeat("y", api.MaxFile)
	begun(t).tells(103, writes("a", full)).tells(0, writes("a", most)).tells(0, writes("a", "")).tells(103, writes("a", "z")).tells(0, writes("b", "z"))
	begun(t).tells(103, writes("a", strings.Repeat("x", 1<<20)))
	begun(t).tells(101, writes("", full)).tells(101, writes(strings.Repeat("n", 21), full))
	x := begun(t).do(writes("a", most[1:])).tells(103, writes("a", "zz")).tells(0, writes("a", "z")).tells(103, writes("a", "z"))
	x.copy().do(syncs("a")).tells(103, writes("a", "z")).do(cut("a", api.MaxFile-1)).tells(103, writes("a", "zz")).tells(0, writes("a", "z"))
	x.copy().do(crash("01")).tells(103, writes("a", "z"))
	x.copy().do(crash("10")).tells(0, writes("a", "z")).tells(103, writes("a", "z"))
	x.do(crash("")).tells(0, writes("a", most)).tells(103, writes("a", "z"))
	y := begun(t)
	for k := range api.MaxFiles {
		y.tells(0, writes(fmt.Sprint("f", k), most)).tells(103, writes(fmt.Sprint("f", k), "z"))
	}
	y.do(rename("f0", "f1"), crash("1"))
}

// TestNoBytes: a Write of no bytes makes a file, is an op, and one of the row.
func TestNoBytes(t *testing.T) {
	x := begun(t)
	for _, none := range [][]byte{nil, {}, []byte("abc")[1:1]} {
		if e := x.f.Write("a", none); e != api.OK {
			t.Errorf("P10.2: Write of no bytes is %d", e)
		}
		x.a.write("a", "")
		x.holds()
	}
	x.has("a", "")
	if n := x.f.Pending(); n != 3 {
		t.Errorf("P10.2: three Writes of no bytes: %d are pending", n)
	}
	x.copy().do(crash("1"), writes("a", "1")).has("a", "1")
	x.copy().do(syncs("a"), writes("a", "1"), crash("0")).has("a", "")
	// One that is kept, and has no byte, has no place that zeros would lead up to.
	begun(t).do(writes("a", "12"), writes("a", ""), crash("01")).has("a", "")
	begun(t).do(writes("a", "12"), writes("a", ""), writes("a", "3"), crash("011")).has("a", "\x00\x003")
	begun(t).do(writes("a", "12"), writes("a", ""), writes("a", "3"), writes("a", ""), crash("0101")).has("a", "")
	begun(t).do(writes("a", "12"), writes("a", ""), writes("a", "3"), writes("a", ""), crash("1001")).has("a", "12")
	begun(t).do(writes("a", "0"), syncs("a"), writes("a", "12"), writes("a", ""), crash("01")).has("a", "0")
	begun(t).do(writes("a", ""), writes("a", "1"), crash("01")).has("a", "1")
}

func TestWrite(t *testing.T) {
	x := begun(t).do(writes("a", "one "), writes("b", "x"), writes("a", "two"))
	x.has("a", "one two").has("b", "x")
	if p, o := x.f.Pending(), x.f.Ops(); p != 3 || o != 3 {
		t.Errorf("P10.1: three Writes: %d pending, %d ops", p, o)
	}
	x.do(syncs("a"))
	if p, o := x.f.Pending(), x.f.Ops(); p != 1 || o != 4 {
		t.Errorf("P10.1: three Writes, two of them synced: %d pending, %d ops", p, o)
	}
	x.do(writes("a", "\x00\xff")).has("a", "one two\x00\xff").do(crash("0")).has("a", "one two").has("b", "")
}

func TestSync(t *testing.T) {
	x := begun(t).do(writes("a", "1"), writes("b", "2"), writes("a", "3"), writes("b", "4"))
	x.copy().do(syncs("a"), crash("")).has("a", "13").has("b", "")
	// What is left of the row are b's two, of which the second one is kept.
	x.copy().do(syncs("a"), crash("01")).has("a", "13").has("b", "\x004")
	x.copy().do(syncs("b"), crash("01")).has("a", "\x003").has("b", "24")
	x.copy().do(syncs("a"), syncs("b"), crash("")).has("a", "13").has("b", "24")
	x.copy().do(syncs("a"), syncs("a"), writes("a", "5"), crash("110")).has("a", "13").has("b", "24")
	x.tells(101, syncs("c")).tells(101, syncs("")).tells(101, syncs("A"))
	if p := x.f.Pending(); p != 4 {
		t.Errorf("P10.2: Syncs that are refused: %d pending", p)
	}
}

func TestRename(t *testing.T) {
	x := begun(t).do(writes("a", "1"), writes("b", "2"), writes("a", "3"), syncs("b"), writes("b", "4"), writes("c", "5"))
	x.copy().tells(0, rename("a", "b")).has("b", "13").tells(101, syncs("a")).do(crash("01")).has("b", "\x003").has("c", "")
	x.copy().tells(0, rename("a", "b")).do(crash("101")).has("b", "1").has("c", "5")
	x.copy().tells(0, rename("b", "a")).has("a", "24").do(crash("01")).has("a", "2").has("c", "5")
	x.copy().tells(0, rename("a", "d")).has("d", "13").has("b", "24").do(writes("a", "new")).has("a", "new").do(crash("11000")).has("d", "13").has("a", "").has("b", "2")
	x.copy().tells(0, rename("a", "d")).tells(0, rename("b", "a")).tells(0, rename("d", "b")).has("a", "24").has("b", "13").do(crash("1000")).has("b", "1").has("a", "2")
	// Over a file, and away again: the writes of the one that was there do not come back.
	x.copy().tells(0, rename("a", "b")).tells(0, rename("b", "a")).tells(101, cut("b", 0)).do(writes("b", "9"), crash("1"))
	same := x.copy().tells(0, rename("a", "a")).has("a", "13")
	if p, o := same.f.Pending(), same.f.Ops(); p != 4 || o != 7 {
		t.Errorf("P10.2: Rename to itself: %d pending, %d ops", p, o)
	}
	same.do(crash("1000")).has("a", "1")
	for _, to := range []string{"", strings.Repeat("n", 21), strings.Repeat("n", 1<<16)} {
		x.tells(101, rename("a", to)).tells(101, rename("none", to)).tells(101, rename(to, to)).tells(101, rename(to, "a"))
	}
	x.tells(101, rename("none", "a")).tells(101, rename("none", "new")).tells(101, rename("none", "none"))
	if p, o := x.f.Pending(), x.f.Ops(); p != 4 || o != 6 {
		t.Errorf("P10.2: Renames that are refused: %d pending, %d ops", p, o)
	}
	// It is never lost.
	begun(t).do(writes("a", "1"), syncs("a"), rename("a", "b"), crash("")).has("b", "1").tells(101, syncs("a"))
}

func TestRemove(t *testing.T) {
	x := begun(t).do(writes("a", "1"), writes("b", "2"), writes("a", "3"), syncs("a"), writes("a", "4"), writes("b", "5"))
	y := x.copy().tells(0, remove("a")).tells(101, remove("a"))
	if p := y.f.Pending(); p != 2 {
		t.Errorf("P10.2: Remove: %d pending", p)
	}
	y.copy().do(crash("")).tells(101, syncs("a")).has("b", "")
	y.copy().do(crash("01")).has("b", "\x005")
	y.do(writes("a", "6")).has("a", "6").do(crash("001")).has("a", "6").has("b", "")
	x.tells(101, remove("c")).tells(101, remove(""))
	begun(t).do(writes("a", "1"), syncs("a"), writes("a", "2"), remove("a"), crash("1")).tells(101, remove("a"))
}

func TestCut(t *testing.T) {
	x := begun(t).do(writes("a", "12"), syncs("a"), writes("a", "34"), writes("b", "5"), writes("a", "67"))
	for _, c := range []struct {
		n    int
		left string
	}{
		{math.MinInt, ""}, {-7, ""}, {-1, ""}, {0, ""}, {1, "1"}, {2, "12"}, {3, "123"}, {4, "1234"}, {5, "12346"}, {6, "123467"}, {7, "123467"}, {1 << 20, "123467"}, {math.MaxInt, "123467"},
	} {
		y := x.copy().tells(0, cut("a", c.n)).has("a", c.left)
		if p := y.f.Pending(); p != 1 {
			t.Errorf("P10.2: Cut %d: %d pending", c.n, p)
		}
		y.copy().do(crash("")).has("a", c.left).has("b", "")
		y.copy().do(crash("1")).has("a", c.left).has("b", "5")
		y.do(writes("a", "89"), writes("a", "0")).has("a", c.left+"890").do(crash("001")).has("a", c.left+"\x00\x000")
	}
	x.tells(101, cut("c", 0)).tells(101, cut("", 1)).tells(101, cut("c", -1))
	begun(t).do(writes("a", ""), cut("a", 0), cut("a", 1), cut("a", -1), crash("")).has("a", "")
}

func TestFault(t *testing.T) {
	x := begun(t).do(writes("a", "1"), fault(0)).tells(102, writes("a", "2")).has("a", "1").tells(0, writes("a", "3")).has("a", "13")
	if p, o := x.f.Pending(), x.f.Ops(); p != 2 || o != 3 {
		t.Errorf("P10.3: a Write that fails: %d pending, %d ops", p, o)
	}
	begun(t).do(fault(0)).tells(102, writes("a", "1")).tells(101, syncs("a")).tells(0, writes("a", "2"))
	begun(t).do(fault(0)).tells(102, writes("a", "")).tells(101, syncs("a"))
	begun(t).do(fault(2)).tells(0, writes("a", "1")).tells(0, writes("b", "2")).tells(102, writes("a", "3")).tells(0, writes("a", "4")).has("a", "14")
	for _, n := range []int{-1, -2, math.MinInt} {
		begun(t).do(fault(n)).tells(0, writes("a", "1")).tells(0, writes("a", "2"))
		begun(t).do(fault(0), fault(n)).tells(0, writes("a", "1")).tells(0, writes("a", "2"))
		begun(t).do(fault(n), fault(0)).tells(102, writes("a", "1")).tells(0, writes("a", "2"))
	}
	begun(t).do(fault(0), fault(1)).tells(0, writes("a", "1")).tells(102, writes("a", "2")).tells(0, writes("a", "3"))
	begun(t).do(fault(1), writes("a", "1"), fault(1)).tells(0, writes("a", "2")).tells(102, writes("a", "3"))
	begun(t).do(fault(math.MaxInt)).tells(0, writes("a", "1")).tells(0, writes("a", "2"))
	// Other ops do not count.
	begun(t).do(writes("a", "1"), fault(1), syncs("a"), rename("a", "b"), cut("b", 0), remove("b")).tells(0, writes("a", "1")).do(syncs("a")).tells(102, writes("a", "2"))
	// Nor do Writes that are refused.
	begun(t).do(fault(0)).tells(101, writes("", "1")).tells(103, writes("a", strings.Repeat("x", api.MaxFile+1))).tells(102, writes("a", "1"))
	begun(t).do(fault(0), crash("1")).tells(0, writes("a", "1"))
}

func TestArm(t *testing.T) {
	base := begun(t).do(writes("a", "1"), syncs("a"), writes("a", "2"), writes("b", "3"))
	for _, c := range []call{writes("a", "4"), writes("a", ""), writes("c", "4"), syncs("a"), rename("a", "b"), rename("a", "c"), rename("a", "a"), remove("a"), cut("a", 0), cut("a", 9)} {
		x := base.copy().do(arm(0)).tells(100, c)
		if !x.f.Down() || x.f.Ops() != 5 {
			t.Errorf("P10.3: %q: down %v, %d ops", x.what, x.f.Down(), x.f.Ops())
		}
		for _, kept := range []string{"", "1", "0", "01", "10", "001", "110"} {
			x.copy().do(crash(kept)).tells(0, writes("a", "5")).tells(0, syncs("a"))
		}
	}
	base.copy().do(arm(0), writes("a", "4"), crash("1")).has("a", "124").has("b", "3")
	base.copy().do(arm(0), writes("a", "4"), crash("110")).has("a", "12").has("b", "3")
	base.copy().do(arm(0), writes("c", "4"), crash("001")).has("a", "1").has("b", "").has("c", "4")
	base.copy().do(arm(0), writes("c", "4"), crash("110")).has("c", "")
	base.copy().do(arm(0), syncs("a"), crash("")).has("a", "1")
	base.copy().do(arm(0), rename("a", "b"), crash("1")).has("a", "12").has("b", "3")
	base.copy().do(arm(0), remove("a"), crash("1")).has("a", "12")
	base.copy().do(arm(0), cut("a", 0), crash("1")).has("a", "12")
	base.copy().do(arm(0), cut("a", 9), crash("")).has("a", "1")
	begun(t).do(arm(2)).tells(0, writes("a", "1")).tells(0, syncs("a")).tells(100, remove("a")).do(crash("")).has("a", "1").tells(0, remove("a"))
	for _, n := range []int{-1, -2, math.MinInt} {
		base.copy().do(arm(n)).tells(0, syncs("a")).tells(0, writes("a", "4"))
		base.copy().do(arm(0), arm(n)).tells(0, syncs("a")).tells(0, writes("a", "4"))
		base.copy().do(arm(n), arm(0)).tells(100, syncs("a")).tells(100, writes("a", "4"))
	}
	base.copy().do(arm(0), arm(1)).tells(0, syncs("a")).tells(100, syncs("a"))
	base.copy().do(arm(1), syncs("a"), arm(1)).tells(0, syncs("a")).tells(100, syncs("a"))
	base.copy().do(arm(math.MaxInt)).tells(0, syncs("a")).tells(0, writes("a", "4"))
	base.copy().do(arm(0), crash("1")).tells(0, writes("a", "4")).tells(0, syncs("a"))
	// What is refused is no op, and does not count.
	x := base.copy().do(arm(0))
	x.tells(101, writes("", "1")).tells(103, writes("a", strings.Repeat("x", api.MaxFile))).tells(101, syncs("c")).tells(101, rename("c", "a")).tells(101, rename("a", "")).tells(101, remove("c")).tells(101, cut("c", 0))
	if x.f.Down() || x.f.Ops() != 4 {
		t.Errorf("P10.3: what is refused brings the file system down, or counts: %d ops", x.f.Ops())
	}
	x.tells(100, syncs("a"))
}

func TestArmAndFault(t *testing.T) {
	// Both at once: the Write's bytes do not stand in the row.
	x := begun(t).do(writes("a", "1"), arm(0), fault(0)).tells(100, writes("a", "2"))
	if p, o := x.f.Pending(), x.f.Ops(); p != 1 || o != 2 || !x.f.Down() {
		t.Errorf("P10.3: armed, and to fault: %d pending, %d ops, down %v", p, o, x.f.Down())
	}
	x.do(crash("1")).has("a", "1")
	begun(t).do(fault(0), arm(0)).tells(100, writes("a", "2")).do(crash("1")).tells(101, syncs("a")).tells(0, writes("a", "1"))
	// A Write that fails is an op.
	begun(t).do(fault(0), arm(1)).tells(102, writes("a", "1")).tells(100, writes("a", "2")).do(crash("1")).has("a", "2")
	begun(t).do(fault(1), arm(0)).tells(100, writes("a", "1")).do(crash("1")).has("a", "1").tells(0, writes("a", "2"))
	begun(t).do(writes("a", "1"), fault(0), arm(1)).tells(0, syncs("a")).tells(100, writes("a", "2")).do(crash("1")).has("a", "1")
	for a := -1; a < 4; a++ {
		for f := -1; f < 4; f++ {
			x := begun(t).do(arm(a), fault(f))
			y := begun(t).do(fault(f), arm(a))
			for k := range 5 {
				c := writes("a", fmt.Sprint(k))
				x.do(c)
				y.do(c)
				x.copy().do(crash("1"), c, c)
				x.copy().do(crash("01"), c, c)
			}
		}
	}
}

func TestDown(t *testing.T) {
	x := begun(t).do(writes("a", "1"), syncs("a"), writes("a", "2"), arm(0)).tells(100, writes("b", "3"))
	ops, pending, names := x.f.Ops(), x.f.Pending(), x.f.Names()
	for _, c := range []call{writes("a", "4"), writes("c", "4"), writes("", "4"), writes("a", strings.Repeat("x", api.MaxFile+1)), syncs("a"), syncs("none"), rename("a", "b"), rename("none", ""), rename("a", "a"), remove("a"), remove("none"), cut("a", 0), cut("none", 0)} {
		x.tells(100, c)
	}
	for _, name := range []string{"a", "b", "none", ""} {
		if b, e := x.f.Read(name); len(b) != 0 || e != 100 {
			t.Errorf("P10.1: Read of %q, when it is down, is %q, %d", name, b, e)
		}
	}
	if x.f.Ops() != ops || x.f.Pending() != pending || !slices.Equal(x.f.Names(), names) || !slices.Equal(names, []string{"a", "b"}) || pending != 2 || ops != 4 {
		t.Errorf("P10.1: down: %d ops, %d pending, names %q", x.f.Ops(), x.f.Pending(), x.f.Names())
	}
	// What is armed, or to fault, when it is down, is not behind a Crash.
	x.do(arm(0), fault(0))
	x.copy().tells(100, writes("a", "4")).do(crash("1")).has("a", "12").has("b", "3").tells(0, writes("a", "4")).tells(0, syncs("a"))
	x.do(arm(-1)).tells(100, syncs("a"))
	if !x.f.Down() || !x.f.Copy().Down() {
		t.Error("P10.3: Arm below 0 brings it up")
	}
	x.do(crash("")).has("a", "1").has("b", "")
	if x.f.Down() || x.f.Ops() != ops || x.f.Pending() != 0 {
		t.Errorf("P10.3: behind a Crash: down %v, %d ops, %d pending", x.f.Down(), x.f.Ops(), x.f.Pending())
	}
}

func TestCrash(t *testing.T) {
	x := begun(t).do(writes("a", "0"), syncs("a"), writes("a", "12"), writes("b", "3"), writes("a", "45"), writes("b", "6"), writes("a", "78"))
	for _, c := range []struct{ keep, a, b string }{
		{"", "0", ""},
		{"0", "0", ""},
		{"1", "0124578", "36"},
		{"10", "0124578", ""},
		{"01", "0", "36"},
		{"100", "012", "\x006"},
		{"001", "0\x00\x0045", ""},
		{"10000", "012", ""},
		{"00100", "0\x00\x0045", ""},
		{"00001", "0\x00\x00\x00\x0078", ""},
		{"10100", "01245", ""},
		{"00101", "0\x00\x004578", ""},
		{"10001", "012\x00\x0078", ""},
		{"10101", "0124578", ""},
		{"01000", "0", "3"},
		{"00010", "0", "\x006"},
		{"01010", "0", "36"},
		{"00001111111", "0\x00\x00\x00\x0078", ""},
		{"11110000000", "01245", "36"},
		{"0000011111", "0", ""},
		{"1100", "012\x00\x0078", "3"},
		{"0011", "0\x00\x0045", "\x006"},
	} {
		y := x.copy().do(crash(c.keep)).has("a", c.a).has("b", c.b)
		if y.f.Pending() != 0 || y.f.Ops() != 7 || y.f.Down() {
			t.Errorf("P10.3: Crash %q: %d pending, %d ops, down %v", c.keep, y.f.Pending(), y.f.Ops(), y.f.Down())
		}
		// What was kept is lost no more; where it was cut off, is where it goes on.
		y.copy().do(crash("")).has("a", c.a).has("b", c.b)
		y.copy().do(crash("0"), writes("a", "9"), crash("1")).has("a", c.a+"9")
		y.do(writes("a", "9"), writes("a", "9"), crash("01")).has("a", c.a+"\x009")
	}
	begun(t).do(crash("1"), crash(""))
	// It need not be down; and what it loses does not show through what comes behind.
	begun(t).do(writes("a", "secret"), crash(""), writes("a", "1"), writes("a", "2"), crash("01")).has("a", "\x002")
	begun(t).do(writes("a", "secret"), cut("a", 0), writes("a", "1"), writes("a", "2"), crash("01")).has("a", "\x002")
}

// scripts is calls of all kinds, of few names, for all scripts of them.
func scripts() []call {
	return []call{
		writes("a", "1"), writes("b", "23"), writes("a", ""), syncs("a"), syncs("b"), rename("a", "b"), rename("b", "c"), rename("a", "a"), remove("a"), cut("a", 1), cut("b", 0),
		arm(0), arm(1), fault(0), fault(1), crash("10"), crash("01"), crash("1"), crash(""),
	}
}

// TestScripts: all scripts of up to four calls, each on a copy of what was ahead of it, which stays as it is.
func TestScripts(t *testing.T) {
	calls := scripts()
	var goOn func(x *two, left int)
	goOn = func(x *two, left int) {
		if left == 0 {
			return
		}
		for _, c := range calls {
			goOn(x.copy().do(c), left-1)
		}
		x.holds()
	}
	goOn(begun(t), 4)
	// And ones that have more ahead of them.
	goOn(begun(t).do(writes("b", "1"), writes("a", "23"), writes("b", "4"), writes("a", "56"), writes("c", "7"), syncs("c"), writes("c", "8")), 3)
}

// anyNumber is a row of numbers that looks like none.
func anyNumber(seed uint32) func(n int) int {
	return func(n int) int {
		seed = seed*1664525 + 1013904223
		return int(seed>>8) % n
	}
}

// anyCall is one of any kind, of names that are, and some that are none.
func anyCall(number func(n int) int) call {
	names := []string{"a", "b", "c", "d", "e", "f", "g", "h", "i", "j", "", strings.Repeat("n", 20), strings.Repeat("n", 21)}
	name, other := names[number(len(names))], names[number(len(names))]
	sizes := []int{0, 1, 1, 2, 3, 10, 100, 1000, 30000, api.MaxFile}
	switch number(16) {
	default:
		return writes(name, strings.Repeat(string(rune('A'+number(26))), sizes[number(len(sizes))]))
	case 0, 1:
		return syncs(name)
	case 2, 3:
		return rename(name, other)
	case 4:
		return remove(name)
	case 5:
		return cut(name, sizes[number(len(sizes))]-1)
	case 6:
		return arm(number(30) - 2)
	case 7:
		return fault(number(10) - 2)
	case 8:
		kept := ""
		for range number(7) {
			kept += fmt.Sprint(number(2))
		}
		return crash(kept)
	}
}

func TestLongScripts(t *testing.T) {
	for seed := range uint32(20) {
		number := anyNumber(seed)
		x := begun(t)
		var ahead *two
		for k := range 300 {
			x.do(anyCall(number))
			if k%50 == 0 {
				ahead = x
				x = x.copy()
			}
		}
		ahead.holds()
	}
}

// TestWhatWasSynced: however it goes on, what a file had at its Sync is ahead of all that it has behind a Crash.
func TestWhatWasSynced(t *testing.T) {
	for seed := range uint32(200) {
		number := anyNumber(seed + 1000)
		f := New()
		synced := map[string]string{}
		for range 60 {
			name := string(rune('a' + number(4)))
			switch number(8) {
			default:
				f.Write(name, bytes.Repeat([]byte{byte('A' + number(26))}, number(5)))
			case 0:
				if f.Sync(name) == api.OK {
					b, _ := f.Read(name)
					synced[name] = string(b)
				}
			case 1:
				n := number(20)
				if b, e := f.Read(name); e == api.OK && f.Cut(name, n) == api.OK {
					synced[name] = string(b[:min(n, len(b))])
				}
			case 2:
				f.Arm(number(9))
			}
			if number(12) > 0 && !f.Down() {
				continue
			}
			keep := []bool{number(2) == 0, number(2) == 0, number(2) == 0}[:number(4)]
			f.Crash(keep)
			for name, was := range synced {
				b, e := f.Read(name)
				if e != api.OK || !strings.HasPrefix(string(b), was) {
					t.Fatalf("P10.4: what was synced of %q was %q; behind a Crash there is %q, %d", name, was, b, e)
				}
				synced[name] = string(b)
			}
		}
	}
}

// TestKeepAll: a Crash that keeps all loses nothing, whether or not it was down.
func TestKeepAll(t *testing.T) {
	for seed := range uint32(30) {
		number := anyNumber(seed + 2000)
		x := begun(t)
		for range 40 {
			c := anyCall(number)
			x.do(c)
			var want []string
			whole := x.a.copy()
			for _, name := range whole.names() {
				want = append(want, name+" "+whole.find(name).text())
			}
			for _, all := range []string{"1", "11", "11111"} {
				y := x.copy().do(crash(all))
				var l []string
				for _, name := range y.f.Names() {
					b, _ := y.f.Read(name)
					l = append(l, name+" "+string(b))
				}
				if !slices.Equal(l, want) {
					t.Fatalf("P10.4: %q: a Crash that keeps all loses something", x.what)
				}
			}
		}
	}
}

// TestCopy: a Copy and its own are each changed behind the other, in all that they have.
func TestCopy(t *testing.T) {
	x := begun(t).do(writes("a", "12"), syncs("a"), writes("a", "34"), writes("b", "5"), arm(3), fault(1))
	changes := append(scripts(), writes("a", strings.Repeat("x", 100)), writes("c", "9"), arm(-1), fault(-1))
	for _, c := range changes {
		for _, d := range changes {
			y := x.copy()
			z := y.copy()
			y.do(c)
			z.holds()
			z.do(d)
			y.holds()
			y.do(d, writes("a", "6"), writes("a", "7"), crash("01"))
			z.holds()
			z.do(c, writes("a", "8"), writes("a", "9"), crash("10"))
			y.holds()
		}
	}
	x.holds()
	down := x.copy().do(arm(0), syncs("a"))
	up := down.copy().do(crash("1"))
	down.holds()
	down.do(crash(""))
	up.holds()
	begun(t).copy().do(writes("a", "1"), arm(0), writes("b", "2"))
}

// TestOwn: what was handed in stays (R5), and is not kept; what is told is the caller's own (R6).
func TestOwn(t *testing.T) {
	f := New()
	given := []byte("one two")
	f.Write("a", given[:3])
	f.Write("a", given[3:])
	clear(given)
	keep := []bool{true, false}
	names := f.Names()
	names[0] = "z"
	b, _ := f.Read("a")
	clear(b)
	_ = append(b[:3], "xxxxxxxx"...)
	if b, e := f.Read("a"); string(b) != "one two" || e != api.OK || !slices.Equal(f.Names(), []string{"a"}) {
		t.Errorf("R6: Read is %q, %d, Names are %q", b, e, f.Names())
	}
	f.Crash(keep)
	if !slices.Equal(keep, []bool{true, false}) {
		t.Errorf("R5: keep became %v", keep)
	}
	b, _ = f.Read("a")
	f.Write("a", []byte("!"))
	f.Cut("a", 1)
	if string(b) != "one" {
		t.Errorf("R6: what was read became %q", b)
	}
}
