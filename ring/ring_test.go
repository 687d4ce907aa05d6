package ring

import (
	"math"
	"slices"
	"strconv"
	"strings"
	"testing"
)

// What is named "asked" tells what the chapter asks a second time and by other means: all that was ever pushed stays, and how often it was turned since is counted.

type asked[T any] struct {
	limit  int
	pushed []T
	turned int
}

func (a *asked[T]) things() []T {
	limit := a.limit
	if limit < 1 {
		limit = 1
	}
	if limit > 64 {
		limit = 64
	}
	var newest []T
	for k := len(a.pushed) - 1; k >= 0 && len(newest) < limit; k-- {
		newest = append(newest, a.pushed[k])
	}
	return newest
}

func (a *asked[T]) top() (x T, some bool) {
	if l := a.things(); len(l) > 0 {
		return l[a.turned%len(l)], true
	}
	return x, false
}

func (a *asked[T]) push(x T) {
	a.pushed = append(slices.Clone(a.pushed), x)
	a.turned = 0
}

func (a *asked[T]) change(f func(x T) T) bool {
	if len(a.pushed) == 0 || f == nil {
		return false
	}
	last := len(a.pushed) - 1
	a.pushed = append(slices.Clone(a.pushed[:last]), f(a.pushed[last]))
	a.turned = 0
	return true
}

// told is what All tells, and fails where its places do not count up from 0.
func told[T any](t *testing.T, r *Ring[T]) []T {
	t.Helper()
	var l []T
	for k, x := range r.All() {
		if k != len(l) {
			t.Fatalf("P5.2: All tells place %d as number %d", k, len(l))
		}
		l = append(l, x)
	}
	return l
}

// holds fails where a ring does not hold these things, the newest first, or does not stand on that one of them.
func holds[T comparable](t *testing.T, what string, r *Ring[T], things []T, at int) {
	t.Helper()
	if n := r.Len(); n != len(things) {
		t.Fatalf("P5.1: %s: Len is %d, not %d", what, n, len(things))
	}
	var top T
	if len(things) > 0 {
		top = things[at]
	}
	for range 2 {
		if x, some := r.Top(); x != top || some != (len(things) > 0) {
			t.Fatalf("P5.1: %s: Top is %v %v, not %v", what, x, some, top)
		}
		if l := told(t, r); !slices.Equal(l, things) {
			t.Fatalf("P5.2: %s: All tells %v, not %v", what, l, things)
		}
	}
}

// filled is a ring with the numbers 1 to n pushed, and turned so often.
func filled(limit, n, turns int) *Ring[int] {
	r := New[int](limit)
	for x := range n {
		r.Push(x + 1)
	}
	for range turns {
		r.Turn()
	}
	return r
}

// down is n, n-1, .. 1, but only the first few of them.
func down(n, few int) []int {
	var l []int
	for x := n; x > 0 && len(l) < few; x-- {
		l = append(l, x)
	}
	return l
}

func TestExample(t *testing.T) {
	r := New[int](8)
	r.Push(1)
	r.Push(2)
	if x, some := r.Turn(); x != 1 || !some {
		t.Errorf("P5.1: the first Turn is %d %v", x, some)
	}
	if x, some := r.Turn(); x != 2 || !some {
		t.Errorf("P5.1: the second Turn is %d %v", x, some)
	}
}

func TestEmpty(t *testing.T) {
	called := false
	for _, limit := range []int{-1, 0, 1, 2, 64, 65} {
		r := New[string](limit)
		empty := func(what string) { t.Helper(); holds(t, what, r, nil, 0) }
		empty("New")
		if x, some := r.Turn(); x != "" || some {
			t.Errorf("P5.1: Turn with nothing there is %q %v", x, some)
		}
		empty("Turn")
		r.Home()
		empty("Home")
		if r.Change(func(x string) string { called = true; return x + "a" }) || called {
			t.Error("P5.1: Change with nothing there is true, or calls f")
		}
		empty("Change")
		if r.Change(nil) {
			t.Error("P5.1: Change with nothing there, and no f, is true")
		}
		empty("Change of no f")
		r = r.Copy()
		empty("Copy")
		if r.All() == nil {
			t.Error("R7: All with nothing there is nil")
		}
		r.Push("a")
		holds(t, "Push behind all these", r, []string{"a"}, 0)
	}
}

// TestLimits pushes more than may stay, and looks behind each Push.
func TestLimits(t *testing.T) {
	for _, row := range []struct{ limit, most int }{
		{math.MinInt, 1}, {-64, 1}, {-1, 1}, {0, 1}, {1, 1}, {2, 2}, {3, 3}, {8, 8}, {63, 63}, {64, 64}, {65, 64}, {66, 64}, {128, 64}, {1000, 64}, {math.MaxInt, 64},
	} {
		what := "limit " + strconv.Itoa(row.limit)
		r := New[int](row.limit)
		for n := 1; n <= 3*row.most+2; n++ {
			r.Push(n)
			holds(t, what, r, down(n, row.most), 0)
		}
		if !r.Change(func(x int) int { return x }) {
			t.Fatalf("P5.1: %s: Change is false", what)
		}
		holds(t, what+", behind Change", r, down(3*row.most+2, row.most), 0)
		r = r.Copy()
		r.Push(1000)
		holds(t, what+", of a copy", r, append([]int{1000}, down(3*row.most+2, row.most-1)...), 0)
	}
}

// TestPushBehindTurns pushes into rings that stand anywhere, into full ones also where they stand on the one that goes.
func TestPushBehindTurns(t *testing.T) {
	for limit := 1; limit <= 65; limit++ {
		for _, n := range []int{1, 2, limit - 1, limit, limit + 1, 2 * limit} {
			for _, turns := range []int{0, 1, limit - 1, limit} {
				r := filled(limit, n, turns)
				r.Push(n + 1)
				holds(t, "Push behind Turns", r, down(n+1, min(limit, 64)), 0)
			}
		}
	}
}

// TestTurn goes round each ring more than twice: step by step to the older one, and from the oldest one to the newest one.
func TestTurn(t *testing.T) {
	for _, limit := range []int{1, 2, 3, 8, 64, 65} {
		for _, n := range []int{1, 2, 3, 8, 63, 64, 70} {
			r := filled(limit, n, 0)
			things := down(n, min(limit, 64))
			for k := 1; k <= 2*len(things)+1; k++ {
				at := k % len(things)
				if x, some := r.Turn(); x != things[at] || !some {
					t.Fatalf("P5.1: limit %d, %d things: Turn number %d is %d %v", limit, n, k, x, some)
				}
				holds(t, "Turn", r, things, at)
			}
		}
	}
}

// TestSameThings: a Turn goes from place to place, also where the things there are the same.
func TestSameThings(t *testing.T) {
	r := New[string](4)
	for _, x := range []string{"b", "a", "a", "a"} {
		r.Push(x)
	}
	for k, want := range []string{"a", "a", "b", "a", "a"} {
		if x, _ := r.Turn(); x != want {
			t.Errorf("P5.1: Turn number %d is %q, not %q", k+1, x, want)
		}
	}
	r.Push("")
	holds(t, "Push of a zero thing", r, []string{"", "a", "a", "a"}, 0)
}

func TestHome(t *testing.T) {
	for turns := range 8 {
		r := filled(3, 5, turns)
		r.Home()
		holds(t, "Home behind Turns", r, []int{5, 4, 3}, 0)
		r.Home()
		holds(t, "Home at home", r, []int{5, 4, 3}, 0)
		if x, _ := r.Turn(); x != 4 {
			t.Errorf("P5.1: a Turn from home is %d", x)
		}
	}
}

func TestChange(t *testing.T) {
	for turns := range 8 {
		r := filled(3, 5, turns)
		if r.Change(nil) {
			t.Fatal("P5.1: Change of no f is true")
		}
		holds(t, "Change of no f behind Turns", r, []int{5, 4, 3}, turns%3)
		var given []int
		if !r.Change(func(x int) int { given = append(given, x); return 10 * x }) {
			t.Fatal("P5.1: Change is false")
		}
		if !slices.Equal(given, []int{5}) {
			t.Fatalf("P5.1: f is asked of %v", given)
		}
		holds(t, "Change behind Turns", r, []int{50, 4, 3}, 0)
		if x, _ := r.Turn(); x != 4 {
			t.Errorf("P5.1: a Turn behind Change is %d", x)
		}
		r.Push(6)
		holds(t, "Push behind Change", r, []int{6, 50, 4}, 0)
	}
}

// TestWithinChange: f may call the ring that it is a Change of; that ends, and leaves a ring that can be leaned on.
func TestWithinChange(t *testing.T) {
	for _, limit := range []int{1, 2, 3} {
		r := filled(limit, 3, 0)
		r.Turn()
		done := r.Change(func(x int) int {
			r.Push(7)
			r.Push(8)
			r.Turn()
			return r.Len()
		})
		if !done || r.Len() != limit {
			t.Errorf("P5.1: limit %d: Change with Pushes within is %v, and leaves %d things", limit, done, r.Len())
		}
		if x, some := r.Top(); x != limit || !some {
			t.Errorf("P5.1: limit %d: it stands on %d %v, not on what f told", limit, x, some)
		}
	}
}

// TestAllToldFalse breaks off at each place, and not at all.
func TestAllToldFalse(t *testing.T) {
	for n := range 6 {
		for turns := range 3 {
			for last := range n + 1 {
				r := filled(5, n, turns)
				var l []int
				r.All()(func(k, x int) bool {
					if k != len(l) || k > last {
						t.Fatalf("P5.2: told false at %d of %d, All tells place %d", last, n, k)
					}
					l = append(l, x)
					return k != last
				})
				if !slices.Equal(l, down(n, last+1)) {
					t.Fatalf("P5.2: told false at %d of %d, All tells %v", last, n, l)
				}
				at := 0
				if n > 0 {
					at = turns % n
				}
				holds(t, "All told false", r, down(n, 5), at)
			}
		}
	}
}

// TestAllAgain: what is told to be ranged over may be gone through again, also within itself, and tells what is there then.
func TestAllAgain(t *testing.T) {
	r := filled(3, 3, 1)
	all := r.All()
	var l []int
	for _, x := range all {
		for _, y := range all {
			l = append(l, 10*x+y)
		}
	}
	if !slices.Equal(l, []int{33, 32, 31, 23, 22, 21, 13, 12, 11}) {
		t.Errorf("P5.2: All within All tells %v", l)
	}
	holds(t, "All within All", r, []int{3, 2, 1}, 1)
	r.Push(4)
	l = nil
	for _, x := range all {
		l = append(l, x)
	}
	if !slices.Equal(l, []int{4, 3, 2}) {
		t.Errorf("P5.2: All, gone through behind a Push, tells %v", l)
	}
}

// TestWithinAll: who is told the things may call the ring meanwhile, and is told those that were there.
func TestWithinAll(t *testing.T) {
	for name, call := range map[string]func(r *Ring[int]){
		"Push":   func(r *Ring[int]) { r.Push(9) },
		"Change": func(r *Ring[int]) { r.Change(func(x int) int { return x + 9 }) },
		"Turn":   func(r *Ring[int]) { r.Turn() },
		"Home":   func(r *Ring[int]) { r.Home() },
	} {
		r := filled(3, 3, 1)
		var l []int
		for _, x := range r.All() {
			call(r)
			l = append(l, x)
		}
		if !slices.Equal(l, []int{3, 2, 1}) {
			t.Errorf("P5.2: %s within All: it tells %v", name, l)
		}
	}
}

// TestCopy changes a copy, then the first ring, by each call, and looks at the other one.
func TestCopy(t *testing.T) {
	calls := map[string]func(r *Ring[int]){
		"Push":   func(r *Ring[int]) { r.Push(9) },
		"Change": func(r *Ring[int]) { r.Change(func(x int) int { return 9 }) },
		"Turn":   func(r *Ring[int]) { r.Turn() },
		"Home":   func(r *Ring[int]) { r.Home() },
	}
	for name, call := range calls {
		for n := range 5 {
			for turns := range 3 {
				things := down(n, 3)
				at := turns % max(len(things), 1)
				first := filled(3, n, turns)
				second := first.Copy()
				holds(t, "a copy", second, things, at)
				call(second)
				holds(t, "a ring whose copy did "+name, first, things, at)

				first = filled(3, n, turns)
				second = first.Copy()
				call(first)
				holds(t, "a copy whose first ring did "+name, second, things, at)

				again := filled(3, n, turns)
				call(again)
				call(second)
				want, _ := again.Top()
				if x, _ := second.Top(); x != want || !slices.Equal(told(t, second), told(t, again)) {
					t.Fatalf("P5.1: %s does otherwise to a copy than to a ring", name)
				}
			}
		}
	}
}

// TestTurnsComeBack goes Len Turns from each place.
func TestTurnsComeBack(t *testing.T) {
	for _, limit := range []int{-1, 0, 1, 2, 7, 64, 100} {
		for _, n := range []int{0, 1, 2, 6, 7, 8, 64, 65, 100} {
			for turns := range 5 {
				r := filled(limit, n, turns)
				things := told(t, r)
				from, some := r.Top()
				for range r.Len() {
					r.Turn()
				}
				if x, also := r.Top(); x != from || also != some {
					t.Fatalf("P5.3: limit %d, %d things: Len Turns from %d come to %d", limit, n, from, x)
				}
				if !slices.Equal(told(t, r), things) {
					t.Fatalf("P5.3: limit %d, %d things: Len Turns leave other things", limit, n)
				}
			}
		}
	}
}

// TestAllRows holds all rows of up to seven calls, at the small limits, against the second telling; each ring is a copy of the one a call ahead, which has to stay as it was.
func TestAllRows(t *testing.T) {
	for limit := -1; limit <= 4; limit++ {
		rows(t, New[string](limit), &asked[string]{limit: limit}, "", 7)
	}
}

func rows(t *testing.T, r *Ring[string], a *asked[string], done string, more int) {
	same(t, r, a, done)
	if more == 0 {
		return
	}
	for _, call := range "pctha" {
		next, wants := r.Copy(), &asked[string]{a.limit, a.pushed, a.turned}
		does(t, next, wants, call, done)
		rows(t, next, wants, done+string(call), more-1)
	}
	same(t, r, a, done+", behind its copies' calls")
}

// does calls a ring, and its second telling, and holds what they answer against each other.
func does(t *testing.T, r *Ring[string], a *asked[string], call rune, done string) {
	switch call {
	case 'p':
		x := strconv.Itoa(len(done))
		r.Push(x)
		a.push(x)
	case 'c':
		longer := func(x string) string { return x + "+" }
		if r.Change(longer) != a.change(longer) {
			t.Fatalf("P5.1: behind %q Change tells otherwise", done)
		}
	case 't':
		a.turned++
		x, some := r.Turn()
		if y, also := a.top(); x != y || some != also {
			t.Fatalf("P5.1: behind %q Turn is %q %v, not %q %v", done, x, some, y, also)
		}
	case 'h':
		a.turned = 0
		r.Home()
	case 'a':
		for range r.All() {
			break
		}
	}
}

func same(t *testing.T, r *Ring[string], a *asked[string], done string) {
	x, some := r.Top()
	if y, also := a.top(); x != y || some != also {
		t.Fatalf("P5.1: limit %d, %q: Top is %q %v, not %q %v", a.limit, done, x, some, y, also)
	}
	things := a.things()
	if n := r.Len(); n != len(things) {
		t.Fatalf("P5.1: limit %d, %q: Len is %d, not %d", a.limit, done, n, len(things))
	}
	if l := told(t, r); !slices.Equal(l, things) {
		t.Fatalf("P5.2: limit %d, %q: All tells %q, not %q", a.limit, done, l, things)
	}
}

// TestLongRow is one row of many calls, as those who type make them, at limits around both ends.
func TestLongRow(t *testing.T) {
	for _, limit := range []int{0, 1, 2, 8, 63, 64, 65} {
		r, a := New[string](limit), &asked[string]{limit: limit}
		done := ""
		for k := range 1500 {
			call := rune("ppptcpthpttca"[(k*k+k/13)%13])
			does(t, r, a, call, done)
			same(t, r, a, done)
			done += string(call)
		}
	}
}

// TestThingsOfManyKinds: a ring is of any type, also of one whose things can't be compared.
func TestThingsOfManyKinds(t *testing.T) {
	lists := New[[]byte](2)
	lists.Push(nil)
	lists.Push([]byte("ab"))
	lists.Change(func(x []byte) []byte { return []byte(strings.ToUpper(string(x))) })
	if x, some := lists.Top(); string(x) != "AB" || !some {
		t.Errorf("P5.1: Top of a ring of bytes is %q %v", x, some)
	}
	if x, some := lists.Turn(); x != nil || !some {
		t.Errorf("P5.1: Turn of a ring of bytes is %q %v", x, some)
	}
	functions := New[func() int](1)
	functions.Push(func() int { return 5 })
	if f, some := functions.Turn(); !some || f() != 5 {
		t.Errorf("P5.1: Turn of a ring of functions is %v", some)
	}
	type kill struct {
		text string
		at   int
	}
	kills := New[kill](8)
	kills.Push(kill{"a", 1})
	kills.Push(kill{"b", 2})
	holds(t, "structs", kills, []kill{{"b", 2}, {"a", 1}}, 0)
}
