package undo

import (
	"math"
	"strconv"
	"testing"
)

// What is named "asked" tells what the chapter asks a second time and by other means: two lists of links that are never changed, of what is ahead and what is behind; how many may be ahead is counted whenever it is asked.

type link[S any] struct {
	s    S
	next *link[S]
}

type asked[S comparable] struct {
	limit  int
	ahead  *link[S]
	now    S
	behind *link[S]
	open   int
}

func begin[S comparable](first S, limit int) asked[S] {
	if limit < 1 {
		limit = 1
	}
	if limit > 256 {
		limit = 256
	}
	return asked[S]{limit: limit, now: first}
}

func (a *asked[S]) does(s S, group int) bool {
	if a.now == s {
		return false
	}
	if group <= 0 || group != a.open {
		a.ahead = few(&link[S]{a.now, a.ahead}, a.limit)
	}
	a.now, a.behind, a.open = s, nil, 0
	if group > 0 {
		a.open = group
	}
	return true
}

func (a *asked[S]) undoes() (S, bool) { return a.steps(&a.ahead, &a.behind) }

func (a *asked[S]) redoes() (S, bool) { return a.steps(&a.behind, &a.ahead) }

// steps stands on the nearest state of one list, and leaves that on which it stood to the other one.
func (a *asked[S]) steps(from, to **link[S]) (S, bool) {
	if *from == nil {
		return a.now, false
	}
	*to = &link[S]{a.now, *to}
	a.now, *from, a.open = (*from).s, (*from).next, 0
	return a.now, true
}

func few[S any](l *link[S], most int) *link[S] {
	if l == nil || most == 0 {
		return nil
	}
	return &link[S]{l.s, few(l.next, most-1)}
}

// list is what some links hold, the nearest one first.
func list[S any](l *link[S]) []S {
	var all []S
	for ; l != nil; l = l.next {
		all = append(all, l.s)
	}
	return all
}

// holds fails where a log does not stand on now, or has not just these states ahead and behind, the nearest one first; what it is asked of is a copy.
func holds[S comparable](t *testing.T, what string, l *Log[S], ahead []S, now S, behind []S) {
	t.Helper()
	for range 2 {
		if s := l.Now(); s != now {
			t.Fatalf("P6.1: %s: Now is %v, not %v", what, s, now)
		}
		if back, forth := l.Len(); back != len(ahead) || forth != len(behind) {
			t.Fatalf("P6.1: %s: Len is %d %d, not %d %d", what, back, forth, len(ahead), len(behind))
		}
		goes(t, "P6.3: "+what+": Undo", l.Copy().Undo, ahead, now)
		goes(t, "P6.3: "+what+": Redo", l.Copy().Redo, behind, now)
	}
}

// goes fails where a call does not come to these states, one by one, and then stay.
func goes[S comparable](t *testing.T, what string, call func() (S, bool), states []S, now S) {
	t.Helper()
	for k, want := range states {
		now = want
		if s, is := call(); s != want || !is {
			t.Fatalf("%s number %d is %v %v, not %v", what, k+1, s, is, want)
		}
	}
	for range 2 {
		if s, is := call(); s != now || is {
			t.Fatalf("%s with none there is %v %v, not %v", what, s, is, now)
		}
	}
}

// done is a log of the numbers 0 to n, each done alone, and undone so often.
func done(t *testing.T, limit, n, undos int) *Log[int] {
	t.Helper()
	l := New(0, limit)
	for s := range n {
		if !l.Do(s+1, 0) {
			t.Fatalf("P6.2: Do of %d is false", s+1)
		}
	}
	for range undos {
		l.Undo()
	}
	return l
}

// down is from, from - 1, .. to.
func down(from, to int) []int {
	var l []int
	for ; from >= to; from-- {
		l = append(l, from)
	}
	return l
}

// up is from, from + 1, .. to.
func up(from, to int) []int {
	var l []int
	for ; from <= to; from++ {
		l = append(l, from)
	}
	return l
}

func TestExample(t *testing.T) {
	l := New(0, 8)
	l.Do(1, 5)
	l.Do(2, 5)
	if s, is := l.Undo(); s != 0 || !is {
		t.Errorf("P6.4: Undo is %d %v", s, is)
	}
}

func TestNew(t *testing.T) {
	for _, limit := range []int{math.MinInt, -1, 0, 1, 2, 255, 256, 257, math.MaxInt} {
		holds(t, "New", New(7, limit), nil, 7, nil)
		holds(t, "New of a zero state", New("", limit), nil, "", nil)
		holds(t, "Copy of a new one", New(7, limit).Copy(), nil, 7, nil)
		for group := -1; group <= 2; group++ {
			l := New(7, limit)
			if !l.Do(8, group) {
				t.Errorf("P6.2: limit %d: Do in group %d of a new log is false", limit, group)
			}
			holds(t, "Do of a new log, of which no group is open", l, []int{7}, 8, nil)
		}
	}
}

// TestLimits does more than may stay ahead, and looks behind each Do; and the same with each group there is a name for.
func TestLimits(t *testing.T) {
	for _, row := range []struct{ limit, most int }{
		{math.MinInt, 1}, {-256, 1}, {-1, 1}, {0, 1}, {1, 1}, {2, 2}, {3, 3}, {32, 32}, {255, 255}, {256, 256}, {257, 256}, {258, 256}, {512, 256}, {math.MaxInt, 256},
	} {
		what := "limit " + strconv.Itoa(row.limit)
		alone, groups := New(0, row.limit), New(0, row.limit)
		last := 2*row.most + 2
		for n := 1; n <= last; n++ {
			if !alone.Do(n, -n) || !groups.Do(-n, n) || !groups.Do(n, n) {
				t.Fatalf("P6.2: %s: Do of another state is false", what)
			}
			back, _ := alone.Len()
			if more, forth := groups.Len(); back != min(n, row.most) || more != back || forth != 0 {
				t.Fatalf("P6.2: %s: behind %d Dos there are %d and %d ahead", what, n, back, more)
			}
			if n < 6 || n > last-3 || n == row.most || n == row.most+1 {
				holds(t, what, alone, down(n-1, max(n-row.most, 0)), n, nil)
				holds(t, what+", in groups", groups, down(n-1, max(n-row.most, 0)), n, nil)
			}
		}
		alone = alone.Copy()
		alone.Do(1000, 0)
		holds(t, what+", of a copy", alone, append([]int{last}, down(last-1, last-row.most+1)...), 1000, nil)
	}
}

// TestLimitBehindUndos: what is undone is not ahead, so that what is done then drops the first state only where the limit is reached anew.
func TestLimitBehindUndos(t *testing.T) {
	for _, limit := range []int{1, 2, 3, 4} {
		for n := range 7 {
			for undos := range min(n, limit) + 1 {
				first := max(n-limit, 0)
				l := done(t, limit, n, undos)
				holds(t, "Undos", l, down(n-undos-1, first), n-undos, up(n-undos+1, n))
				l.Do(50, 0)
				ahead := down(n-undos, first)
				holds(t, "a Do behind Undos", l, ahead[:min(len(ahead), limit)], 50, nil)
				l.Do(51, 0)
				ahead = append([]int{50}, ahead...)
				holds(t, "two Dos behind Undos", l, ahead[:min(len(ahead), limit)], 51, nil)
			}
		}
	}
}

// TestRedoAtLimit: states behind are no matter of the limit, nor is what Redo makes of them.
func TestRedoAtLimit(t *testing.T) {
	for _, limit := range []int{1, 2, 3, 256} {
		n := limit + 3
		l := done(t, limit, n, limit)
		holds(t, "all undone", l, nil, 3, up(4, n))
		for at := 4; at <= n; at++ {
			if s, is := l.Redo(); s != at || !is {
				t.Fatalf("P6.3: limit %d: Redo is %d %v, not %d", limit, s, is, at)
			}
			if back, forth := l.Len(); back != at-3 || forth != n-at {
				t.Fatalf("P6.3: limit %d: behind Redo of %d Len is %d %d", limit, at, back, forth)
			}
		}
		holds(t, "all redone", l, down(n-1, 3), n, nil)
	}
}

// TestGroups: rows of Dos, and what can be undone to behind them.
func TestGroups(t *testing.T) {
	type do struct{ s, group int }
	for _, row := range []struct {
		what  string
		dos   []do
		ahead []int
	}{
		{"one group", []do{{1, 5}, {2, 5}, {3, 5}}, []int{0}},
		{"another group", []do{{1, 5}, {2, 6}}, []int{1, 0}},
		{"the group that was open once", []do{{1, 5}, {2, 6}, {3, 5}}, []int{2, 1, 0}},
		{"group 0", []do{{1, 0}, {2, 0}}, []int{1, 0}},
		{"a group below 0", []do{{1, -5}, {2, -5}}, []int{1, 0}},
		{"groups far off 0", []do{{1, math.MaxInt}, {2, math.MaxInt}, {3, math.MinInt}, {4, math.MinInt}}, []int{3, 2, 0}},
		{"group 0 ends a group", []do{{1, 5}, {2, 0}, {3, 5}}, []int{2, 1, 0}},
		{"a group below 0 ends a group", []do{{1, 5}, {2, -5}, {3, 5}}, []int{2, 1, 0}},
		{"the one number below 0 and above", []do{{1, -5}, {2, 5}, {3, -5}}, []int{2, 1, 0}},
		{"group 1", []do{{1, 1}, {2, 1}, {3, 2}, {4, 2}}, []int{2, 0}},
		{"back to the first state within a group", []do{{1, 5}, {0, 5}}, []int{0}},
		{"forth and back within a group", []do{{1, 5}, {0, 5}, {2, 5}}, []int{0}},
	} {
		l := New(0, 8)
		for _, d := range row.dos {
			if !l.Do(d.s, d.group) {
				t.Errorf("P6.2: %s: Do of %d is false", row.what, d.s)
			}
		}
		holds(t, row.what, l, row.ahead, row.dos[len(row.dos)-1].s, nil)
	}
}

// TestDoOfNow: nothing is done, nothing is dropped, and the group that is open stays, whichever group is asked for.
func TestDoOfNow(t *testing.T) {
	for group := -1; group <= 6; group++ {
		l := New(0, 8)
		if l.Do(0, group) {
			t.Errorf("P6.2: Do of the first state in group %d is true", group)
		}
		holds(t, "Do of the first state", l, nil, 0, nil)
		l.Do(1, group)
		holds(t, "Do behind a Do that did nothing", l, []int{0}, 1, nil)

		l = done(t, 8, 4, 2)
		if l.Do(2, group) {
			t.Errorf("P6.2: Do of Now's state with states behind, in group %d, is true", group)
		}
		holds(t, "Do of Now's state with states behind", l, []int{1, 0}, 2, []int{3, 4})

		l = done(t, 8, 1, 0)
		l.Do(2, 5)
		if l.Do(2, group) {
			t.Errorf("P6.2: Do of Now's state in group %d, where 5 is open, is true", group)
		}
		l.Do(3, 5)
		holds(t, "Do in the group that stayed open", l, []int{1, 0}, 3, nil)
		l.Do(3, 6)
		l.Do(4, 6)
		holds(t, "Do in a group that did not open", l, []int{3, 1, 0}, 4, nil)
	}
}

// TestDoOfOther: only Now's state is none to be done; that just ahead, or just behind, is.
func TestDoOfOther(t *testing.T) {
	for group := range 2 {
		l := done(t, 8, 4, 2)
		if !l.Do(1, group) {
			t.Error("P6.2: Do of the state just ahead is false")
		}
		holds(t, "Do of the state just ahead", l, []int{2, 1, 0}, 1, nil)
		l = done(t, 8, 4, 2)
		if !l.Do(3, group) {
			t.Error("P6.2: Do of the state just behind is false")
		}
		holds(t, "Do of the state just behind", l, []int{2, 1, 0}, 3, nil)
	}
}

// TestEndOfGroup does two states in one group, with calls between, and tells how many are ahead then.
func TestEndOfGroup(t *testing.T) {
	for _, row := range []struct {
		what  string
		calls func(l *Log[int])
		ahead []int
	}{
		{"nothing", func(l *Log[int]) {}, []int{1, 0}},
		{"Move", func(l *Log[int]) { l.Move(3) }, []int{1, 0}},
		{"Move to what is done then", func(l *Log[int]) { l.Move(9) }, []int{1, 0}},
		{"Now, Len, Copy", func(l *Log[int]) { l.Now(); l.Len(); l.Copy().Break() }, []int{1, 0}},
		{"Break", func(l *Log[int]) { l.Break() }, []int{2, 1, 0}},
		{"two Breaks", func(l *Log[int]) { l.Break(); l.Break() }, []int{2, 1, 0}},
		{"Undo", func(l *Log[int]) { l.Undo() }, []int{1, 0}},
		{"two Undos", func(l *Log[int]) { l.Undo(); l.Undo() }, []int{0}},
		{"more Undos than there are", func(l *Log[int]) { l.Undo(); l.Undo(); l.Undo(); l.Undo() }, []int{0}},
		{"Undo and Redo", func(l *Log[int]) { l.Undo(); l.Redo() }, []int{2, 1, 0}},
		{"Redo where there is none", func(l *Log[int]) { l.Redo() }, []int{1, 0}},
		{"Do of Now's state in no group", func(l *Log[int]) { l.Do(2, 0) }, []int{1, 0}},
		{"Do in no group", func(l *Log[int]) { l.Do(3, 0) }, []int{3, 2, 1, 0}},
	} {
		l := done(t, 8, 1, 0)
		l.Do(2, 5)
		row.calls(l)
		l.Do(9, 5)
		holds(t, "one group, between: "+row.what, l, row.ahead, 9, nil)
		l.Do(10, 5)
		if back, _ := l.Len(); back != len(row.ahead) {
			t.Errorf("P6.2: between: %s: the group is not open behind a Do in it", row.what)
		}
	}
}

func TestBreak(t *testing.T) {
	l := done(t, 8, 4, 2)
	l.Break()
	holds(t, "Break", l, []int{1, 0}, 2, []int{3, 4})
	l = New(0, 1)
	l.Break()
	holds(t, "Break of a new log", l, nil, 0, nil)
}

// TestMove: the state in the place of which another one comes is gone, and that alone.
func TestMove(t *testing.T) {
	for n := range 6 {
		for undos := range n + 1 {
			at := n - undos
			for _, s := range []int{-7, at, at - 1, at + 1} {
				l := done(t, 8, n, undos)
				l.Move(s)
				holds(t, "Move", l, down(at-1, 0), s, up(at+1, n))
				if l.Do(s, 0) {
					t.Fatalf("P6.2: Do of the state moved to is true")
				}
				l.Move(s + 1)
				l.Move(s)
				holds(t, "Moves", l, down(at-1, 0), s, up(at+1, n))
				l.Do(99, 0)
				holds(t, "Do behind Move", l, append([]int{s}, down(at-1, 0)...), 99, nil)
			}
		}
	}
}

// TestMoveAtLimit: a Move is no Do, so nothing goes where the limit is reached.
func TestMoveAtLimit(t *testing.T) {
	for _, limit := range []int{1, 2, 256} {
		l := done(t, limit, limit+2, 0)
		for s := range 5 {
			l.Move(-s)
			holds(t, "Move at the limit", l, down(limit+1, 2), -s, nil)
		}
	}
}

// TestGroupAtLimit: in the group that is open nothing comes behind, so nothing goes.
func TestGroupAtLimit(t *testing.T) {
	for _, limit := range []int{1, 2, 256} {
		l := done(t, limit, limit, 0)
		l.Do(-1, 5)
		for s := 2; s < 6; s++ {
			l.Do(-s, 5)
			holds(t, "a group at the limit", l, down(limit, 1), -s, nil)
		}
		l.Do(-6, 6)
		ahead := append([]int{-5}, down(limit, 2)...)
		holds(t, "another group at the limit", l, ahead, -6, nil)
	}
}

// TestNoneThere: an Undo, and a Redo, of what isn't there tell Now's state, and change nothing.
func TestNoneThere(t *testing.T) {
	l := New(7, 8)
	for range 3 {
		if s, is := l.Undo(); s != 7 || is {
			t.Errorf("P6.3: Undo of a new log is %d %v", s, is)
		}
		if s, is := l.Redo(); s != 7 || is {
			t.Errorf("P6.3: Redo of a new log is %d %v", s, is)
		}
		holds(t, "nothing undone or redone", l, nil, 7, nil)
	}
	l = done(t, 8, 2, 2)
	if s, is := l.Undo(); s != 0 || is {
		t.Errorf("P6.3: Undo of the first state is %d %v", s, is)
	}
	holds(t, "Undo at the first state", l, nil, 0, []int{1, 2})
	l = done(t, 8, 2, 0)
	if s, is := l.Redo(); s != 2 || is {
		t.Errorf("P6.3: Redo of the last state is %d %v", s, is)
	}
	holds(t, "Redo at the last state", l, []int{1, 0}, 2, nil)
}

// TestComeBack: k Undos and k Redos, and the other way round, come back to the same state, and leave all others as they were.
func TestComeBack(t *testing.T) {
	for _, limit := range []int{1, 2, 5, 256} {
		for n := range 8 {
			for undos := range min(n, limit) + 1 {
				for k := range 8 {
					l := done(t, limit, n, undos)
					back, forth := l.Len()
					there := func(call func() (int, bool), times int) {
						for range times {
							call()
						}
					}
					there(l.Undo, min(k, back))
					there(l.Redo, min(k, back))
					there(l.Redo, min(k, forth))
					there(l.Undo, min(k, forth))
					first := max(n-limit, 0)
					holds(t, "back and forth", l, down(n-undos-1, first), n-undos, up(n-undos+1, n))
				}
			}
		}
	}
}

// TestOneUndoAGroup: of what was done in one group one Undo goes back to the state ahead of it, however much it was, and one Redo to its last state.
func TestOneUndoAGroup(t *testing.T) {
	for _, limit := range []int{-1, 1, 2, 8, 300} {
		for group := 1; group < 4; group++ {
			for times := 1; times < 6; times++ {
				l := done(t, limit, 3, 0)
				for s := range times {
					l.Do(10+s, group)
					l.Do(10+s, 9)
					if s == 2 {
						l.Move(50)
					}
				}
				if s, is := l.Undo(); s != 3 || !is {
					t.Fatalf("P6.4: limit %d: Undo of a group of %d Dos is %d %v", limit, times, s, is)
				}
				last := 9 + times
				if times == 3 {
					last = 50
				}
				if s, is := l.Redo(); s != last || !is {
					t.Fatalf("P6.4: limit %d: Redo of a group of %d Dos is %d %v", limit, times, s, is)
				}
			}
		}
	}
}

var calls = []struct {
	name string
	call func(l *Log[int])
}{
	{"Do alone", func(l *Log[int]) { l.Do(70, 0) }},
	{"Do in group 5", func(l *Log[int]) { l.Do(71, 5) }},
	{"Do in group 6", func(l *Log[int]) { l.Do(72, 6) }},
	{"Do of Now's state", func(l *Log[int]) { l.Do(l.Now(), 5) }},
	{"Move", func(l *Log[int]) { l.Move(73) }},
	{"Break", func(l *Log[int]) { l.Break() }},
	{"Undo", func(l *Log[int]) { l.Undo() }},
	{"Redo", func(l *Log[int]) { l.Redo() }},
}

// alike fails where two logs tell, or would tell behind one more Do, otherwise.
func alike(t *testing.T, what string, l, other *Log[int]) {
	t.Helper()
	for _, end := range calls {
		one, two := l.Copy(), other.Copy()
		end.call(one)
		end.call(two)
		var ahead, behind []int
		for c := two.Copy(); ; {
			s, is := c.Undo()
			if !is {
				break
			}
			ahead = append(ahead, s)
		}
		for c := two.Copy(); ; {
			s, is := c.Redo()
			if !is {
				break
			}
			behind = append(behind, s)
		}
		holds(t, what+", then "+end.name, one, ahead, two.Now(), behind)
	}
}

// TestCopy changes a copy, then the first log, by two calls, and looks at the other one; logs are tried that stand anywhere, with and without an open group.
func TestCopy(t *testing.T) {
	for undos := range 4 {
		for group := range 2 {
			for _, limit := range []int{1, 3, 8} {
				fresh := func() *Log[int] {
					l := done(t, limit, 3, undos)
					if group > 0 {
						l.Do(40, 5)
					}
					return l
				}
				for _, one := range calls {
					for _, two := range calls {
						what := one.name + ", " + two.name
						first := fresh()
						second := first.Copy()
						one.call(second)
						two.call(second)
						alike(t, "a log whose copy did "+what, first, fresh())
						one.call(first)
						two.call(first)
						alike(t, "a log and its copy, both of which did "+what, first, second)

						first = fresh()
						second = first.Copy()
						one.call(first)
						two.call(first)
						alike(t, "a copy whose first log did "+what, second, fresh())
						one.call(second)
						two.call(second)
						alike(t, "a copy that did what its first log did: "+what, second, first)
					}
				}
			}
		}
	}
}

// TestManyCopies: many copies of one log, each with an end of its own, keep their ends.
func TestManyCopies(t *testing.T) {
	first := done(t, 256, 20, 5)
	var copies []*Log[int]
	for k := range 40 {
		c := first.Copy()
		c.Do(100+k, 1+k%3)
		c.Move(200 + k)
		copies = append(copies, c, c.Copy())
	}
	for k, c := range copies {
		c.Do(300+k, 0)
	}
	for k, c := range copies {
		holds(t, "a copy of many", c, append([]int{200 + k/2}, down(15, 0)...), 300+k, nil)
	}
	holds(t, "the first log of many copies", first, down(14, 0), 15, up(16, 20))
}

// TestAllRows holds all rows of calls, of logs of numbers, of texts and of structs, against the second telling; each log is a copy of the one a call ahead, which has to stay as it was.
func TestAllRows(t *testing.T) {
	type line struct {
		s  string
		at int
	}
	number := func(k int) int { return k }
	texts := func(k int) string { return "abcdefgh"[:k] }
	// Lines of one text that are told apart by the cursor alone, and of texts alone.
	lines := func(k int) line { return line{"ab"[:k%2], k / 2} }
	for limit := -1; limit <= 3; limit++ {
		row(t, New(number(0), limit), begin(number(0), limit), number, "", 6)
		row(t, New(texts(0), limit), begin(texts(0), limit), texts, "", 4)
		row(t, New(lines(0), limit), begin(lines(0), limit), lines, "", 4)
	}
}

// The calls of a row: d a new state alone, e in a group below 0, 1 and 2 in groups, n Now's state, f the first state in group 1, m a Move to a new one, b Break, u Undo, r Redo.
const letters = "d12nfmbure"

func row[S comparable](t *testing.T, l *Log[S], a asked[S], state func(k int) S, before string, more int) {
	agrees(t, l, &a, before)
	if more == 0 {
		return
	}
	for _, call := range letters {
		next, wants := l.Copy(), a
		does(t, next, &wants, call, state, before)
		row(t, next, wants, state, before+string(call), more-1)
	}
	agrees(t, l, &a, before+", behind its copies' calls")
}

// does calls a log, and its second telling, and holds what they answer against each other.
func does[S comparable](t *testing.T, l *Log[S], a *asked[S], call rune, state func(k int) S, before string) {
	s, group := state(len(before)+1), 0
	switch call {
	case 'm':
		l.Move(s)
		a.now = s
		return
	case 'b':
		l.Break()
		a.open = 0
		return
	case 'u', 'r':
		one, two := l.Undo, a.undoes
		if call == 'r' {
			one, two = l.Redo, a.redoes
		}
		x, is := one()
		if y, also := two(); x != y || is != also {
			t.Fatalf("P6.3: behind %q, %c is %v %v, not %v %v", before, call, x, is, y, also)
		}
		return
	case 'e':
		group = -1
	case '1', '2':
		group = int(call - '0')
	case 'n':
		s, group = a.now, 2
	case 'f':
		s, group = state(0), 1
	}
	if is, also := l.Do(s, group), a.does(s, group); is != also {
		t.Fatalf("P6.2: behind %q, Do of %v in group %d is %v", before, s, group, is)
	}
}

// agrees holds a log, and what it tells going back and forth and back again, against the second telling.
func agrees[S comparable](t *testing.T, l *Log[S], a *asked[S], before string) {
	ahead, behind := list(a.ahead), list(a.behind)
	back, forth := l.Len()
	if l.Now() != a.now || back != len(ahead) || forth != len(behind) {
		t.Fatalf("P6.1: limit %d, %q: Now is %v, not %v; Len is %d %d, not %d %d", a.limit, before, l.Now(), a.now, back, forth, len(ahead), len(behind))
	}
	c := l.Copy()
	for _, want := range ahead {
		if s, is := c.Undo(); s != want || !is {
			t.Fatalf("P6.3: limit %d, %q: Undo is %v %v, not %v", a.limit, before, s, is, want)
		}
	}
	for range ahead {
		c.Redo()
	}
	if s := c.Now(); s != a.now {
		t.Fatalf("P6.4: limit %d, %q: all undone and redone, Now is %v, not %v", a.limit, before, s, a.now)
	}
	for _, want := range behind {
		if s, is := c.Redo(); s != want || !is {
			t.Fatalf("P6.3: limit %d, %q: Redo is %v %v, not %v", a.limit, before, s, is, want)
		}
	}
}

// TestLongRow is one row of many calls, as those who type make them, at limits around both ends.
func TestLongRow(t *testing.T) {
	for _, limit := range []int{0, 1, 2, 32, 255, 256, 257} {
		l, a := New(0, limit), begin(0, limit)
		before := ""
		for k := range 1200 {
			call := rune("d1m12dn1udrf2bm1dued"[(k*k+k/17)%20])
			if k%400 > 330 {
				call = rune("uuru"[k%4])
			}
			does(t, l, &a, call, func(k int) int { return k }, before)
			agrees(t, l, &a, before)
			before += string(call)
		}
	}
}

// TestStatesOfManyKinds: the states of a log are of any type that can be compared, also of an interface, whose values may turn out not to be.
func TestStatesOfManyKinds(t *testing.T) {
	fractions := New(math.NaN(), 2)
	if !fractions.Do(math.NaN(), 0) || !fractions.Do(0, 0) || fractions.Do(math.Copysign(0, -1), 0) {
		t.Error("P6.2: Do of fractions tells otherwise than == does")
	}
	arrays := New([2]int{1, 2}, 2)
	if arrays.Do([2]int{1, 2}, 0) || !arrays.Do([2]int{2, 1}, 0) {
		t.Error("P6.2: Do of arrays tells otherwise than == does")
	}
	one, two := new(int), new(int)
	pointers := New(one, 2)
	if pointers.Do(one, 0) || !pointers.Do(two, 0) || !pointers.Do(nil, 0) || pointers.Do(nil, 0) {
		t.Error("P6.2: Do of pointers tells otherwise than == does")
	}
}

func TestStatesThatCannotBeCompared(t *testing.T) {
	list := []int{1}
	l := New[any](list, 8)
	if !l.Do(list, 0) || !l.Do(list, 5) || !l.Do(list, 5) {
		t.Error("R1: Do of what can't be compared is false")
	}
	if back, forth := l.Len(); back != 2 || forth != 0 {
		t.Errorf("P6.2: behind Dos of what can't be compared Len is %d %d", back, forth)
	}
	if !l.Do("a", 0) || l.Do("a", 0) || !l.Do(nil, 0) || l.Do(nil, 0) || !l.Do(list, 0) {
		t.Error("P6.2: Do of an interface's values tells otherwise than == does")
	}
	l.Move(func() {})
	if !l.Do(func() {}, 0) {
		t.Error("R1: Do of functions is false")
	}
}
