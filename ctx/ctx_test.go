package ctx_test

import (
	"math"
	"math/rand"
	"slices"
	"testing"

	"countermand/api"
	"countermand/ctx"
)

const (
	forever  int64 = api.Forever
	earliest int64 = math.MinInt64

	canceled = api.ErrCanceled
	late     = api.ErrLate
)

// node is a context as plainly as the document says it.
type node struct {
	over int // -1, if it stands below none
	cut  bool

	timed   bool
	at, why int64

	keyed      bool
	key, value int64

	err   api.Errno
	cause int64
}

// model is an arena as plainly as the document says it: its contexts, in the order in which they were made.
type model struct {
	most  int
	nodes []node
}

func newModel(most int) *model { return &model{most, []node{{over: -1}}} }

func (m *model) has(n int) bool { return 0 <= n && n < len(m.nodes) }

func (m *model) reach(n int) []int {
	if !m.has(n) {
		return nil
	}
	l := []int{n}
	for kid, x := range m.nodes {
		if x.over == n && !x.cut {
			l = append(l, m.reach(kid)...)
		}
	}
	return l
}

// end ends a context.
func (m *model) end(n int, err api.Errno, cause int64) []int {
	if cause == 0 {
		cause = int64(err)
	}
	var done []int
	for _, r := range m.reach(n) {
		if m.nodes[r].err == api.OK {
			m.nodes[r].err, m.nodes[r].cause = err, cause
			done = append(done, r)
		}
	}
	return done
}

func (m *model) make(x node, now int64) (int, api.Errno) {
	switch {
	case !m.has(x.over):
		return -1, api.ErrName
	case len(m.nodes) == m.most:
		return -1, api.ErrFull
	}
	n, over := len(m.nodes), m.nodes[x.over]
	m.nodes = append(m.nodes, x)
	if over.err != api.OK && !x.cut {
		m.nodes[n].err, m.nodes[n].cause = over.err, over.cause
	} else if x.timed && x.at <= now {
		m.end(n, late, x.why)
	}
	return n, api.OK
}

func (m *model) cancel(n int, cause int64) []int {
	if n == 0 {
		return nil
	}
	return m.end(n, canceled, cause)
}

// due takes the one that comes next, again and again, among those that it hasn't taken.
func (m *model) due(now int64) []int {
	var done []int
	taken := map[int]bool{}
	for {
		next := -1
		for n, x := range m.nodes {
			if !x.timed || x.at > now || taken[n] {
				continue
			}
			if next < 0 || x.at < m.nodes[next].at {
				next = n
			}
		}
		if next < 0 {
			return done
		}
		taken[next] = true
		if m.nodes[next].err == api.OK {
			done = append(done, m.end(next, late, m.nodes[next].why)...)
		}
	}
}

func (m *model) deadline(n int) (int64, bool) {
	if !m.has(n) {
		return 0, false
	}
	x := m.nodes[n]
	if x.cut || x.over < 0 {
		return x.at, x.timed
	}
	at, is := m.deadline(x.over)
	switch {
	case !is:
		return x.at, x.timed
	case x.timed && x.at < at:
		return x.at, true
	}
	return at, true
}

func (m *model) value(n int, key int64) (int64, bool) {
	if !m.has(n) {
		return 0, false
	}
	if x := m.nodes[n]; x.keyed && x.key == key {
		return x.value, true
	}
	return m.value(m.nodes[n].over, key)
}

func (m *model) next() int64 {
	at := forever
	for _, x := range m.nodes {
		if x.timed && x.err == api.OK && x.at < at {
			at = x.at
		}
	}
	return at
}

// outside are numbers of which there is no context, where there are so many.
func outside(many int) []int {
	return []int{-1, many, -2, many + 1, 201, 200 + many, 1 << 16, 1 << 32, -1 << 16, -1 << 32, math.MinInt, math.MaxInt}
}

// keys are those that tests give to contexts, and some that none has.
var keys = []int64{0, 1, 2, -1, 99, earliest, forever}

func made(t *testing.T, most int) *ctx.Arena {
	t.Helper()
	a, e := ctx.New(most)
	if a == nil || e != api.OK {
		t.Fatalf("New(%d) = %v, %d", most, a, e)
	}
	return a
}

// is holds what a call that makes a context tells against the number that it ought to have.
func is(t *testing.T, want int) func(n int, e api.Errno) {
	t.Helper()
	return func(n int, e api.Errno) {
		t.Helper()
		if n != want || e != api.OK {
			t.Errorf("made %d, %d, want %d, %d", n, e, want, api.OK)
		}
	}
}

func refused(t *testing.T, want api.Errno) func(n int, e api.Errno) {
	t.Helper()
	return func(n int, e api.Errno) {
		t.Helper()
		if n != -1 || e != want {
			t.Errorf("made %d, %d, want -1, %d", n, e, want)
		}
	}
}

func wantList(t *testing.T, what string, got []int, want ...int) {
	t.Helper()
	if !slices.Equal(got, want) {
		t.Errorf("%s = %v, want %v", what, got, want)
	}
}

func wantEnd(t *testing.T, a *ctx.Arena, n int, err api.Errno, cause int64) {
	t.Helper()
	if is := a.Done(n); is != (err != api.OK) {
		t.Errorf("Done(%d) = %t", n, is)
	}
	if e, c := a.Err(n), a.Cause(n); e != err || c != cause {
		t.Errorf("Err(%d), Cause(%d) = %d, %d, want %d, %d", n, n, e, c, err, cause)
	}
}

func wantDeadline(t *testing.T, a *ctx.Arena, n int, want int64, has bool) {
	t.Helper()
	if at, is := a.Deadline(n); at != want || is != has {
		t.Errorf("Deadline(%d) = %d, %t, want %d, %t", n, at, is, want, has)
	}
}

func wantValue(t *testing.T, a *ctx.Arena, n int, key, want int64, has bool) {
	t.Helper()
	if v, is := a.Value(n, key); v != want || is != has {
		t.Errorf("Value(%d, %d) = %d, %t, want %d, %t", n, key, v, is, want, has)
	}
}

func wantNext(t *testing.T, a *ctx.Arena, want int64) {
	t.Helper()
	if at := a.Next(); at != want {
		t.Errorf("Next() = %d, want %d", at, want)
	}
}

// same holds all that an arena tells against its model.
func same(t *testing.T, a *ctx.Arena, m *model) {
	t.Helper()
	if n := a.Len(); n != len(m.nodes) {
		t.Fatalf("Len() = %d, want %d", n, len(m.nodes))
	}
	wantNext(t, a, m.next())
	for n, x := range m.nodes {
		wantEnd(t, a, n, x.err, x.cause)
		at, timed := m.deadline(n)
		wantDeadline(t, a, n, at, timed)
		for _, key := range keys {
			v, keyed := m.value(n, key)
			wantValue(t, a, n, key, v, keyed)
		}
		wantList(t, "Reach", a.Reach(n), m.reach(n)...)
	}
	for _, n := range outside(len(m.nodes)) {
		wantEnd(t, a, n, api.OK, 0)
		wantDeadline(t, a, n, 0, false)
		wantValue(t, a, n, 0, 0, false)
		wantValue(t, a, n, 1, 0, false)
		wantList(t, "Reach", a.Reach(n))
	}
}

// The calls that change an arena.
const (
	withCancel = iota
	withDeadline
	withValue
	withoutCancel
	cancel
	due
)

type call struct {
	what int
	n    int   // over whom, or who is cancelled
	x, y int64 // a deadline and its cause, a key and its value, or the cause of Cancel
	now  int64
}

// do makes a call of an arena and of its model, holds the answers against each other, and tells the list.
func do(t *testing.T, a *ctx.Arena, m *model, c call) []int {
	t.Helper()
	var l, want []int
	switch c.what {
	case cancel:
		l, want = a.Cancel(c.n, c.x), m.cancel(c.n, c.x)
	case due:
		l, want = a.Due(c.now), m.due(c.now)
	default:
		n, e := makes(a, c)
		wantN, wantE := makesModel(m, c)
		if n != wantN || e != wantE {
			t.Errorf("%+v = %d, %d, want %d, %d", c, n, e, wantN, wantE)
		}
		return nil
	}
	if !slices.Equal(l, want) {
		t.Errorf("%+v = %v, want %v", c, l, want)
	}
	return l
}

func makes(a *ctx.Arena, c call) (int, api.Errno) {
	switch c.what {
	case withCancel:
		return a.WithCancel(c.n)
	case withDeadline:
		return a.WithDeadline(c.n, c.x, c.y, c.now)
	case withValue:
		return a.WithValue(c.n, c.x, c.y)
	}
	return a.WithoutCancel(c.n)
}

func makesModel(m *model, c call) (int, api.Errno) {
	x := node{over: c.n}
	switch c.what {
	case withDeadline:
		x.timed, x.at, x.why = true, c.x, c.y
	case withValue:
		x.keyed, x.key, x.value = true, c.x, c.y
	case withoutCancel:
		x.cut = true
	}
	return m.make(x, c.now)
}

// each are the calls that make a context, of each kind one.
func each(over int) []call {
	return []call{
		{what: withCancel, n: over},
		{what: withDeadline, n: over, x: 50, y: 6, now: 3},
		{what: withDeadline, n: over, x: 3, y: 6, now: 3},
		{what: withValue, n: over, x: 1, y: 8},
		{what: withoutCancel, n: over},
	}
}

// P6.1: of each size that a tree may have, just so many contexts may be there, the context 0 among them.
func TestNew(t *testing.T) {
	for most := 1; most <= 200; most++ {
		a, m := made(t, most), newModel(most)
		same(t, a, m)
		for n := 1; n < most; n++ {
			do(t, a, m, each(n - 1)[n%5])
		}
		if l := a.Len(); l != most {
			t.Fatalf("Len() = %d, want %d", l, most)
		}
		for _, c := range each(0) {
			refused(t, api.ErrFull)(makes(a, c))
		}
		if l := a.Len(); l != most {
			t.Errorf("Len() = %d of a full arena of %d", l, most)
		}
	}
}

// P6.1
func TestNewOfWrongSizes(t *testing.T) {
	for _, most := range []int{
		0, -1, -2, -200, 201, 202, 255, 256, 257, 1000, 1 << 16, 1<<16 + 1, 1<<32 + 1, -1 << 32, math.MinInt, math.MinInt + 1, math.MaxInt,
	} {
		if a, e := ctx.New(most); a != nil || e != api.ErrArg {
			t.Errorf("New(%d) = %v, %d, want nil, %d", most, a, e, api.ErrArg)
		}
	}
}

// P6.1, P6.3: the context 0 is there from the beginning, and has nothing.
func TestContext0(t *testing.T) {
	a := made(t, 8)
	if l := a.Len(); l != 1 {
		t.Errorf("Len() = %d", l)
	}
	wantEnd(t, a, 0, api.OK, 0)
	wantDeadline(t, a, 0, 0, false)
	wantNext(t, a, forever)
	wantList(t, "Reach(0)", a.Reach(0), 0)
	for _, key := range keys {
		wantValue(t, a, 0, key, 0, false)
	}
	wantList(t, "Due(Forever)", a.Due(forever))
	wantEnd(t, a, 0, api.OK, 0)
}

// P6.1: each kind of context has what it was made with, and nothing else.
func TestKinds(t *testing.T) {
	a := made(t, 5)
	is(t, 1)(a.WithCancel(0))
	is(t, 2)(a.WithDeadline(0, 20, 5, 3))
	is(t, 3)(a.WithValue(0, 7, 9))
	is(t, 4)(a.WithoutCancel(0))
	for n := range 5 {
		wantEnd(t, a, n, api.OK, 0)
		if n == 2 {
			wantDeadline(t, a, n, 20, true)
		} else {
			wantDeadline(t, a, n, 0, false)
		}
		for _, key := range []int64{0, 3, 5, 7, 9, 20} {
			if n == 3 && key == 7 {
				wantValue(t, a, n, 7, 9, true)
			} else {
				wantValue(t, a, n, key, 0, false)
			}
		}
	}
	wantList(t, "Reach(0)", a.Reach(0), 0, 1, 2, 3)
	wantList(t, "Reach(4)", a.Reach(4), 4)
	wantNext(t, a, 20)
}

// P6.1: what may not be made changes nothing; in a full arena, too, it is told first that there is no such context.
func TestRefused(t *testing.T) {
	for _, most := range []int{5, 6, 200} {
		a, m := made(t, most), newModel(most)
		for _, c := range []call{
			{what: withDeadline, n: 0, x: 20, y: 5, now: 3}, {what: withoutCancel, n: 1},
			{what: withCancel, n: 0}, {what: withValue, n: 2, x: 1, y: 2}, {what: cancel, n: 3},
		} {
			do(t, a, m, c)
		}
		for _, over := range append(outside(5), most, most+1) {
			for _, c := range each(over) {
				refused(t, api.ErrName)(makes(a, c))
			}
		}
		same(t, a, m)
		if most > 5 {
			continue
		}
		for over := range 5 {
			for _, c := range each(over) {
				refused(t, api.ErrFull)(makes(a, c))
			}
			same(t, a, m)
		}
	}
}

// P6.1: numbers count on over what was refused, and over nothing else.
func TestNumbers(t *testing.T) {
	a := made(t, 4)
	refused(t, api.ErrName)(a.WithCancel(1))
	is(t, 1)(a.WithDeadline(0, 1, 0, 5))
	refused(t, api.ErrName)(a.WithDeadline(2, 1, 0, 5))
	refused(t, api.ErrName)(a.WithoutCancel(-1))
	is(t, 2)(a.WithValue(1, 0, 0))
	refused(t, api.ErrName)(a.WithValue(3, 0, 0))
	is(t, 3)(a.WithoutCancel(2))
	refused(t, api.ErrFull)(a.WithCancel(3))
	refused(t, api.ErrName)(a.WithCancel(4))
	wantList(t, "Reach(1)", a.Reach(1), 1, 2)
	wantList(t, "Reach(3)", a.Reach(3), 3)
	if l := a.Len(); l != 4 {
		t.Errorf("Len() = %d", l)
	}
}

// P6.1: an arena of one is full with the context 0.
func TestOneContext(t *testing.T) {
	a := made(t, 1)
	for _, c := range each(0) {
		refused(t, api.ErrFull)(makes(a, c))
	}
	for _, c := range append(each(1), each(-1)...) {
		refused(t, api.ErrName)(makes(a, c))
	}
	wantList(t, "Cancel(0, 1)", a.Cancel(0, 1))
	wantList(t, "Due(Forever)", a.Due(forever))
	same(t, a, newModel(1))
}

// P6.1: who is made below one that is done is done by the same error and cause, whatever its own deadline says; if it is
// cut, it isn't done.
func TestBelowOneThatIsDone(t *testing.T) {
	for _, c := range []struct {
		what  string
		end   func(a *ctx.Arena)
		err   api.Errno
		cause int64
	}{
		{"cancelled", func(a *ctx.Arena) { wantList(t, "Cancel(1, 7)", a.Cancel(1, 7), 1) }, canceled, 7},
		{"cancelled by 0", func(a *ctx.Arena) { wantList(t, "Cancel(1, 0)", a.Cancel(1, 0), 1) }, canceled, 10},
		{"late", func(a *ctx.Arena) { wantList(t, "Due(9)", a.Due(9), 1) }, late, 5},
	} {
		t.Run(c.what, func(t *testing.T) {
			a := made(t, 20)
			is(t, 1)(a.WithDeadline(0, 9, 5, 0))
			c.end(a)
			is(t, 2)(a.WithCancel(1))
			is(t, 3)(a.WithDeadline(1, 100, 6, 9))
			is(t, 4)(a.WithDeadline(1, 9, 6, 9))
			is(t, 5)(a.WithDeadline(1, 2, 0, 9))
			is(t, 6)(a.WithValue(1, 1, 2))
			is(t, 7)(a.WithoutCancel(1))
			is(t, 8)(a.WithCancel(2))
			is(t, 9)(a.WithDeadline(5, 1, 1, 9))
			is(t, 10)(a.WithCancel(7))
			is(t, 11)(a.WithDeadline(7, 100, 6, 9))
			is(t, 12)(a.WithDeadline(7, 9, 6, 9))
			is(t, 13)(a.WithoutCancel(12))
			for _, n := range []int{1, 2, 3, 4, 5, 6, 8, 9} {
				wantEnd(t, a, n, c.err, c.cause)
			}
			for _, n := range []int{0, 7, 10, 11, 13} {
				wantEnd(t, a, n, api.OK, 0)
			}
			wantEnd(t, a, 12, late, 6)
			wantNext(t, a, 100)
			wantDeadline(t, a, 3, 9, true)
			wantDeadline(t, a, 5, 2, true)
			wantDeadline(t, a, 7, 0, false)
			wantValue(t, a, 6, 1, 2, true)
			wantList(t, "Cancel(1, 8)", a.Cancel(1, 8))
			wantList(t, "Due(100)", a.Due(100), 11)
			wantEnd(t, a, 3, c.err, c.cause)
		})
	}
}

// P6.1: who is made below several that are done has what the one right over it has.
func TestBelowTwoThatAreDone(t *testing.T) {
	a := made(t, 8)
	is(t, 1)(a.WithCancel(0))
	is(t, 2)(a.WithCancel(1))
	wantList(t, "Cancel(2, 4)", a.Cancel(2, 4), 2)
	wantList(t, "Cancel(1, 7)", a.Cancel(1, 7), 1)
	is(t, 3)(a.WithCancel(2))
	is(t, 4)(a.WithCancel(1))
	is(t, 5)(a.WithCancel(0))
	wantEnd(t, a, 3, canceled, 4)
	wantEnd(t, a, 4, canceled, 7)
	wantEnd(t, a, 5, api.OK, 0)
}

// P6.1: a deadline that is no more than now ends the new one at once; one that is more doesn't.
func TestDeadlineAtOnce(t *testing.T) {
	for _, c := range []struct {
		at, now int64
		ends    bool
	}{
		{10, 10, true}, {9, 10, true}, {11, 10, false},
		{0, 0, true}, {-1, 0, true}, {1, 0, false},
		{-5, -5, true}, {-6, -5, true}, {-4, -5, false},
		{earliest, earliest, true}, {earliest + 1, earliest, false}, {earliest, earliest + 1, true},
		{forever, forever, true}, {forever, forever - 1, false}, {forever - 1, forever, true},
		{earliest, forever, true}, {forever, earliest, false}, {earliest, 0, true}, {forever, 0, false},
		{0, earliest, false}, {0, forever, true},
	} {
		for _, cause := range []struct{ given, told int64 }{{0, 11}, {1, 1}, {11, 11}, {10, 10}, {-3, -3}, {earliest, earliest}, {forever, forever}} {
			a := made(t, 3)
			is(t, 1)(a.WithDeadline(0, c.at, cause.given, c.now))
			wantDeadline(t, a, 1, c.at, true)
			wantEnd(t, a, 0, api.OK, 0)
			if c.ends {
				wantEnd(t, a, 1, late, cause.told)
				wantNext(t, a, forever)
				wantList(t, "Due", a.Due(forever))
			} else {
				wantEnd(t, a, 1, api.OK, 0)
				wantNext(t, a, c.at)
				wantList(t, "Due", a.Due(c.at-1))
				wantList(t, "Due", a.Due(c.at), 1)
			}
			wantEnd(t, a, 1, late, cause.told)
		}
	}
}

// P6.1: only the new one's own deadline is asked for; the one over it is ended by Due alone.
func TestNewOneBelowOneThatIsDue(t *testing.T) {
	a := made(t, 6)
	is(t, 1)(a.WithDeadline(0, 5, 1, 0))
	is(t, 2)(a.WithDeadline(1, 9, 2, 7))
	is(t, 3)(a.WithDeadline(1, 6, 3, 7))
	is(t, 4)(a.WithCancel(1))
	wantEnd(t, a, 1, api.OK, 0)
	wantEnd(t, a, 2, api.OK, 0)
	wantEnd(t, a, 3, late, 3)
	wantNext(t, a, 5)
	wantList(t, "Due(7)", a.Due(7), 1, 2, 4)
	wantEnd(t, a, 2, late, 1)
	wantEnd(t, a, 3, late, 3)
}

// P6.2: who is done now is told, in the order in which it is reached: not by numbers, and not by depth.
func TestCancelOrder(t *testing.T) {
	grown := func(t *testing.T) *ctx.Arena {
		a := made(t, 9)
		for n, over := range []int{0, 0, 2, 1, 0, 1, 4, 2} {
			is(t, n+1)(a.WithCancel(over))
		}
		return a
	}
	for n, want := range [][]int{nil, {1, 4, 7, 6}, {2, 3, 8}, {3}, {4, 7}, {5}, {6}, {7}, {8}} {
		a := grown(t)
		wantList(t, "Cancel", a.Cancel(n, 3), want...)
		for m := range 9 {
			if slices.Contains(want, m) {
				wantEnd(t, a, m, canceled, 3)
			} else {
				wantEnd(t, a, m, api.OK, 0)
			}
		}
	}
	a := grown(t)
	wantList(t, "Cancel(4, 1)", a.Cancel(4, 1), 4, 7)
	wantList(t, "Cancel(3, 2)", a.Cancel(3, 2), 3)
	wantList(t, "Cancel(1, 3)", a.Cancel(1, 3), 1, 6)
	wantList(t, "Cancel(2, 4)", a.Cancel(2, 4), 2, 8)
	wantList(t, "Cancel(5, 5)", a.Cancel(5, 5), 5)
	for n, cause := range []int64{0, 3, 4, 2, 1, 5, 3, 1, 4} {
		if n > 0 {
			wantEnd(t, a, n, canceled, cause)
		}
	}
}

// P6.2: Cancel of the context 0, or of none, ends nobody.
func TestCancelOfNone(t *testing.T) {
	a, m := made(t, 6), newModel(6)
	for _, c := range []call{{what: withCancel}, {what: withDeadline, n: 1, x: 9}, {what: withoutCancel, n: 1}, {what: withCancel, n: 2}} {
		do(t, a, m, c)
	}
	for _, n := range append(outside(5), 0) {
		for _, cause := range []int64{0, 1, -1, earliest, forever} {
			wantList(t, "Cancel", a.Cancel(n, cause))
		}
	}
	same(t, a, m)
	wantEnd(t, a, 0, api.OK, 0)
	wantEnd(t, a, 1, api.OK, 0)
}

// P6.2: a cause 0 counts as the error's number; each other one stays what it is.
func TestCauses(t *testing.T) {
	for _, c := range []struct{ given, told, toldLate int64 }{
		{0, 10, 11}, {1, 1, 1}, {-1, -1, -1}, {10, 10, 10}, {11, 11, 11}, {earliest, earliest, earliest}, {forever, forever, forever},
	} {
		a := made(t, 6)
		is(t, 1)(a.WithCancel(0))
		is(t, 2)(a.WithCancel(1))
		is(t, 3)(a.WithDeadline(0, 5, c.given, 0))
		is(t, 4)(a.WithCancel(3))
		wantList(t, "Cancel(1)", a.Cancel(1, c.given), 1, 2)
		wantEnd(t, a, 1, canceled, c.told)
		wantEnd(t, a, 2, canceled, c.told)
		wantList(t, "Due(5)", a.Due(5), 3, 4)
		wantEnd(t, a, 3, late, c.toldLate)
		wantEnd(t, a, 4, late, c.toldLate)
		is(t, 5)(a.WithCancel(4))
		wantEnd(t, a, 5, late, c.toldLate)
	}
}

// P6.2: ahead of a deadline nobody is ended by it; at it, and behind it, all whom it reaches.
func TestDue(t *testing.T) {
	for _, at := range []int64{earliest + 1, -7, 0, 7, forever - 1, forever} {
		a := made(t, 5)
		is(t, 1)(a.WithCancel(0))
		is(t, 2)(a.WithDeadline(1, at, 4, earliest))
		is(t, 3)(a.WithCancel(2))
		is(t, 4)(a.WithCancel(1))
		wantList(t, "Due, ahead of all", a.Due(earliest))
		wantList(t, "Due, ahead", a.Due(at-1))
		wantNext(t, a, at)
		wantEnd(t, a, 2, api.OK, 0)
		wantList(t, "Due", a.Due(at), 2, 3)
		wantNext(t, a, forever)
		wantEnd(t, a, 2, late, 4)
		wantEnd(t, a, 3, late, 4)
		wantEnd(t, a, 1, api.OK, 0)
		wantEnd(t, a, 4, api.OK, 0)
		wantList(t, "Due, again", a.Due(at))
		wantList(t, "Due, behind all", a.Due(forever))
	}
}

// P6.2: by deadlines, not by numbers; each with all whom it reaches ahead of the next one.
func TestDueOrder(t *testing.T) {
	a := made(t, 12)
	is(t, 1)(a.WithDeadline(0, 30, 1, 0))
	is(t, 2)(a.WithDeadline(0, 10, 2, 0))
	is(t, 3)(a.WithDeadline(0, 20, 3, 0))
	is(t, 4)(a.WithCancel(2))
	is(t, 5)(a.WithCancel(1))
	is(t, 6)(a.WithDeadline(0, 40, 6, 0))
	is(t, 7)(a.WithCancel(3))
	is(t, 8)(a.WithDeadline(0, -5, 8, -9))
	wantNext(t, a, -5)
	wantList(t, "Due(-6)", a.Due(-6))
	wantList(t, "Due(39)", a.Due(39), 8, 2, 4, 3, 7, 1, 5)
	for n, cause := range []int64{0, 1, 2, 3, 2, 1, 0, 3, 8} {
		if cause > 0 {
			wantEnd(t, a, n, late, cause)
		} else {
			wantEnd(t, a, n, api.OK, 0)
		}
	}
	wantNext(t, a, 40)
}

// P6.2: by deadlines that lie as far apart as times may.
func TestDueOrderOfEdges(t *testing.T) {
	a := made(t, 8)
	for n, at := range []int64{forever, earliest + 2, 0, forever - 1, -1, earliest + 1, forever} {
		is(t, n+1)(a.WithDeadline(0, at, 0, earliest))
	}
	wantNext(t, a, earliest+1)
	wantList(t, "Due(Forever)", a.Due(forever), 6, 2, 5, 3, 4, 1, 7)
}

// P6.2: of one deadline, by their numbers, be there as many as there may.
func TestDueOfOneDeadline(t *testing.T) {
	a := made(t, 8)
	is(t, 1)(a.WithDeadline(0, 5, 1, 0))
	is(t, 2)(a.WithDeadline(0, 5, 2, 0))
	is(t, 3)(a.WithCancel(1))
	is(t, 4)(a.WithDeadline(2, 5, 4, 0))
	is(t, 5)(a.WithDeadline(0, 4, 5, 0))
	is(t, 6)(a.WithDeadline(0, 5, 6, 0))
	wantList(t, "Due(5)", a.Due(5), 5, 1, 3, 2, 4, 6)
	wantEnd(t, a, 4, late, 2)

	wide := made(t, 200)
	var want []int
	for n := 1; n < 200; n++ {
		is(t, n)(wide.WithDeadline(0, int64(n%3), 0, -1))
	}
	for at := range 3 {
		for n := 1; n < 200; n++ {
			if n%3 == at {
				want = append(want, n)
			}
		}
	}
	wantList(t, "Due(2)", wide.Due(2), want...)
}

// P6.2: who is ended below another one has that one's cause, and isn't ended once more by a deadline of its own, in the
// same Due or later; where its own one is earlier, that one counts.
func TestDueWithADeadlineOfItsOwn(t *testing.T) {
	grown := func(t *testing.T) *ctx.Arena {
		a := made(t, 8)
		is(t, 1)(a.WithDeadline(0, 9, 1, 0))
		is(t, 2)(a.WithDeadline(1, 4, 2, 0))
		is(t, 3)(a.WithCancel(2))
		is(t, 4)(a.WithDeadline(1, 12, 4, 0))
		is(t, 5)(a.WithDeadline(1, 9, 5, 0))
		is(t, 6)(a.WithDeadline(2, 3, 6, 0))
		return a
	}
	ends := func(t *testing.T, a *ctx.Arena) {
		t.Helper()
		for n, cause := range []int64{0, 1, 2, 2, 1, 1, 6} {
			if n > 0 {
				wantEnd(t, a, n, late, cause)
			}
		}
		wantNext(t, a, forever)
		wantList(t, "Due(Forever)", a.Due(forever))
	}
	a := grown(t)
	wantList(t, "Due(20)", a.Due(20), 6, 2, 3, 1, 4, 5)
	ends(t, a)
	a = grown(t)
	wantList(t, "Due(3)", a.Due(3), 6)
	wantNext(t, a, 4)
	wantList(t, "Due(8)", a.Due(8), 2, 3)
	wantNext(t, a, 9)
	wantList(t, "Due(9)", a.Due(9), 1, 4, 5)
	ends(t, a)
}

// P6.2: Due goes by what it is given, be it less than ahead of that.
func TestDueBackwards(t *testing.T) {
	a := made(t, 4)
	is(t, 1)(a.WithDeadline(0, 9, 1, 0))
	is(t, 2)(a.WithDeadline(0, 3, 2, 0))
	wantList(t, "Due(5)", a.Due(5), 2)
	is(t, 3)(a.WithDeadline(0, 4, 3, 0))
	wantList(t, "Due(3)", a.Due(3))
	wantNext(t, a, 4)
	wantList(t, "Due(4)", a.Due(4), 3)
	wantEnd(t, a, 1, api.OK, 0)
}

// P6.2, P6.4: who is done stays as he is, whatever would end him once more.
func TestDoneStays(t *testing.T) {
	a := made(t, 8)
	is(t, 1)(a.WithDeadline(0, 20, 1, 0))
	is(t, 2)(a.WithDeadline(1, 10, 2, 0))
	is(t, 3)(a.WithDeadline(1, 15, 3, 0))
	is(t, 4)(a.WithCancel(3))
	wantList(t, "Cancel(3, 8)", a.Cancel(3, 8), 3, 4)
	wantList(t, "Due(10)", a.Due(10), 2)
	stays := func() {
		t.Helper()
		wantEnd(t, a, 2, late, 2)
		wantEnd(t, a, 3, canceled, 8)
		wantEnd(t, a, 4, canceled, 8)
	}
	stays()
	wantList(t, "Cancel(2, 9)", a.Cancel(2, 9))
	wantList(t, "Cancel(3, 0)", a.Cancel(3, 0))
	wantList(t, "Cancel(4, 9)", a.Cancel(4, 9))
	wantList(t, "Due(15)", a.Due(15))
	stays()
	wantList(t, "Cancel(1, 7)", a.Cancel(1, 7), 1)
	stays()
	wantList(t, "Due(20)", a.Due(20))
	wantList(t, "Due(5)", a.Due(5))
	stays()
	wantEnd(t, a, 1, canceled, 7)
	is(t, 5)(a.WithDeadline(2, 5, 5, 20))
	wantEnd(t, a, 5, late, 2)
	stays()
}

// P6.3: the least one of the chain, be it one's own or one's over's.
func TestDeadline(t *testing.T) {
	a := made(t, 12)
	is(t, 1)(a.WithCancel(0))
	is(t, 2)(a.WithDeadline(1, 20, 0, 0))
	is(t, 3)(a.WithDeadline(2, 30, 0, 0))
	is(t, 4)(a.WithDeadline(2, 10, 0, 0))
	is(t, 5)(a.WithDeadline(4, 20, 0, 0))
	is(t, 6)(a.WithCancel(5))
	is(t, 7)(a.WithDeadline(1, forever, 0, 0))
	is(t, 8)(a.WithValue(7, 20, 5))
	is(t, 9)(a.WithDeadline(7, earliest, 0, earliest))
	is(t, 10)(a.WithCancel(9))
	is(t, 11)(a.WithDeadline(2, 0, 0, 0))
	want := func() {
		t.Helper()
		for n, at := range map[int]int64{2: 20, 3: 20, 4: 10, 5: 10, 6: 10, 7: forever, 8: forever, 9: earliest, 10: earliest, 11: 0} {
			wantDeadline(t, a, n, at, true)
		}
		wantDeadline(t, a, 0, 0, false)
		wantDeadline(t, a, 1, 0, false)
	}
	want()
	a.Due(15)
	a.Cancel(1, 3)
	want()
}

// P6.3: the first one of the path counts; a key without a value and one with a value 0 are two.
func TestValue(t *testing.T) {
	a := made(t, 12)
	is(t, 1)(a.WithValue(0, 1, 100))
	is(t, 2)(a.WithValue(1, 2, 200))
	is(t, 3)(a.WithValue(2, 1, 300))
	is(t, 4)(a.WithCancel(3))
	is(t, 5)(a.WithoutCancel(4))
	is(t, 6)(a.WithDeadline(5, 9, 8, 1))
	is(t, 7)(a.WithValue(6, 0, 0))
	is(t, 8)(a.WithValue(7, earliest, forever))
	is(t, 9)(a.WithValue(8, forever, earliest))
	is(t, 10)(a.WithValue(1, 1, -100))
	for _, c := range []struct {
		n          int
		key, value int64
		is         bool
	}{
		{0, 1, 0, false}, {1, 1, 100, true}, {2, 1, 100, true}, {2, 2, 200, true}, {1, 2, 0, false},
		{3, 1, 300, true}, {3, 2, 200, true}, {4, 1, 300, true}, {5, 1, 300, true}, {6, 2, 200, true}, {9, 1, 300, true},
		{6, 0, 0, false}, {7, 0, 0, true}, {9, 0, 0, true}, {6, 9, 0, false}, {6, 8, 0, false}, {9, 100, 0, false},
		{8, earliest, forever, true}, {8, forever, 0, false}, {9, forever, earliest, true}, {9, earliest, forever, true},
		{7, earliest, 0, false}, {10, 1, -100, true}, {10, 2, 0, false}, {9, 3, 0, false}, {9, -1, 0, false},
	} {
		wantValue(t, a, c.n, c.key, c.value, c.is)
	}
	a.Cancel(1, 0)
	a.Due(9)
	wantValue(t, a, 6, 1, 300, true)
	wantValue(t, a, 10, 1, -100, true)
	for _, n := range outside(11) {
		wantValue(t, a, n, 1, 0, false)
		wantValue(t, a, n, 0, 0, false)
	}
}

// P6.3: the least deadline of those that aren't done.
func TestNext(t *testing.T) {
	a := made(t, 12)
	wantNext(t, a, forever)
	is(t, 1)(a.WithCancel(0))
	is(t, 2)(a.WithValue(1, 5, 6))
	is(t, 3)(a.WithoutCancel(1))
	wantNext(t, a, forever)
	is(t, 4)(a.WithDeadline(3, forever, 0, 0))
	wantNext(t, a, forever)
	is(t, 5)(a.WithDeadline(1, 20, 0, 0))
	wantNext(t, a, 20)
	is(t, 6)(a.WithDeadline(5, 30, 0, 0))
	wantNext(t, a, 20)
	is(t, 7)(a.WithDeadline(4, 10, 0, 0))
	wantNext(t, a, 10)
	is(t, 8)(a.WithDeadline(0, 5, 0, 5))
	wantNext(t, a, 10)
	a.Cancel(7, 0)
	wantNext(t, a, 20)
	a.Cancel(5, 0)
	wantNext(t, a, forever)
	is(t, 9)(a.WithDeadline(5, 8, 0, 0))
	wantNext(t, a, forever)
	is(t, 10)(a.WithDeadline(0, earliest+1, 0, earliest))
	wantNext(t, a, earliest+1)
	a.Due(earliest + 1)
	wantNext(t, a, forever)
	for n := 1; n <= 10; n++ {
		a.Cancel(n, 0)
	}
	for n := 1; n <= 10; n++ {
		if !a.Done(n) {
			t.Errorf("%d isn't done", n)
		}
	}
	wantNext(t, a, forever)
}

// P6.1 to P6.3: who is without cancelling has the values of those over it, and neither their ends nor their deadlines; so
// has who stands below it.
func TestWithoutCancel(t *testing.T) {
	a := made(t, 9)
	is(t, 1)(a.WithDeadline(0, 10, 1, 0))
	is(t, 2)(a.WithValue(1, 3, 33))
	is(t, 3)(a.WithoutCancel(2))
	is(t, 4)(a.WithCancel(3))
	is(t, 5)(a.WithDeadline(4, 20, 5, 0))
	is(t, 6)(a.WithoutCancel(5))
	is(t, 7)(a.WithCancel(2))
	wantList(t, "Reach(0)", a.Reach(0), 0, 1, 2, 7)
	wantList(t, "Reach(2)", a.Reach(2), 2, 7)
	wantList(t, "Reach(3)", a.Reach(3), 3, 4, 5)
	wantList(t, "Reach(6)", a.Reach(6), 6)
	wantDeadline(t, a, 3, 0, false)
	wantDeadline(t, a, 4, 0, false)
	wantDeadline(t, a, 5, 20, true)
	wantDeadline(t, a, 6, 0, false)
	wantDeadline(t, a, 7, 10, true)
	wantList(t, "Due(10)", a.Due(10), 1, 2, 7)
	for _, n := range []int{3, 4, 5, 6} {
		wantEnd(t, a, n, api.OK, 0)
		wantValue(t, a, n, 3, 33, true)
	}
	wantList(t, "Cancel(3, 4)", a.Cancel(3, 4), 3, 4, 5)
	wantEnd(t, a, 5, canceled, 4)
	wantEnd(t, a, 6, api.OK, 0)
	wantList(t, "Due(20)", a.Due(20))
	wantList(t, "Cancel(6, 0)", a.Cancel(6, 0), 6)
	wantEnd(t, a, 6, canceled, 10)
	wantValue(t, a, 6, 3, 33, true)
}

// P6.3: Reach tells who is reached, be they done or not.
func TestReach(t *testing.T) {
	a := made(t, 9)
	for n, over := range []int{0, 0, 2, 1} {
		is(t, n+1)(a.WithCancel(over))
	}
	is(t, 5)(a.WithoutCancel(1))
	is(t, 6)(a.WithDeadline(1, 3, 0, 5))
	is(t, 7)(a.WithValue(4, 0, 0))
	is(t, 8)(a.WithCancel(5))
	for range 2 {
		for n, want := range [][]int{{0, 1, 4, 7, 6, 2, 3}, {1, 4, 7, 6}, {2, 3}, {3}, {4, 7}, {5, 8}, {6}, {7}, {8}} {
			wantList(t, "Reach", a.Reach(n), want...)
		}
		a.Cancel(1, 0)
	}
	for _, n := range outside(9) {
		wantList(t, "Reach", a.Reach(n))
	}
}

// The example of the chapter.
func TestExample(t *testing.T) {
	a := made(t, 5)
	is(t, 1)(a.WithCancel(0))
	is(t, 2)(a.WithCancel(1))
	is(t, 3)(a.WithoutCancel(1))
	is(t, 4)(a.WithCancel(2))
	wantList(t, "Cancel(1, 7)", a.Cancel(1, 7), 1, 2, 4)
	for _, n := range []int{1, 2, 4} {
		wantEnd(t, a, n, canceled, 7)
	}
	wantEnd(t, a, 3, api.OK, 0)
}

// P6.2: 200 contexts, one below the other, are ended from the top, from the middle, and by one deadline among them.
func TestLongestWay(t *testing.T) {
	a := made(t, 200)
	for n := 1; n < 200; n++ {
		is(t, n)(a.WithDeadline(n-1, int64(1000-n), int64(n), 0))
	}
	wantNext(t, a, 801)
	wantDeadline(t, a, 1, 999, true)
	wantDeadline(t, a, 199, 801, true)
	wantList(t, "Due(803)", a.Due(803), 199, 198, 197)
	wantEnd(t, a, 198, late, 198)
	if l := a.Cancel(100, 5); len(l) != 97 || l[0] != 100 || l[96] != 196 {
		t.Errorf("Cancel(100, 5) = %v", l)
	}
	wantNext(t, a, 901)
	if l := a.Cancel(1, 6); len(l) != 99 || l[0] != 1 || l[98] != 99 {
		t.Errorf("Cancel(1, 6) = %v", l)
	}
	wantEnd(t, a, 196, canceled, 5)
	wantNext(t, a, forever)
}

// spoil changes a list wherever whoever got it may.
func spoil(l []int) {
	for i := range l {
		l[i] = 99
	}
	l = append(l, 99, 99)
	_ = append(l[:len(l)/2], 99, 99)
	_ = append(l[:0], 99)
}

// R3: who got a list may change it, and add to it, without the arena's knowing.
func TestListsAreNew(t *testing.T) {
	a, m := made(t, 12), newModel(12)
	for n, over := range []int{0, 1, 1, 0, 4, 2, 5, 0} {
		do(t, a, m, call{what: n % 4, n: over, x: int64(9 + n), y: 7})
	}
	for _, c := range []call{{what: due, now: 10}, {what: cancel, n: 2, x: 3}, {what: due, now: 20}, {what: cancel, n: 4}, {what: cancel, n: 7}} {
		for n := range 9 {
			spoil(a.Reach(n))
		}
		same(t, a, m)
		spoil(do(t, a, m, c))
		same(t, a, m)
	}
}

// R3: lists that were told stay as they are, whatever is done later, or is added to them ahead of that.
func TestListsStay(t *testing.T) {
	a, m := made(t, 200), newModel(200)
	r := rand.New(rand.NewSource(6))
	var got, were [][]int
	for i := range 150 {
		l := do(t, a, m, step(r, m, int64(i/5)))
		for _, l := range [][]int{l, a.Reach(r.Intn(a.Len()))} {
			got, were = append(got, l), append(were, slices.Clone(l))
			_ = append(l, 99, 99, 99)
		}
	}
	same(t, a, m)
	for i, l := range got {
		if !slices.Equal(l, were[i]) {
			t.Errorf("list %d is %v now, was %v", i, l, were[i])
		}
	}
}

// R5: arenas share nothing.
func TestArenasAreApart(t *testing.T) {
	a, m := made(t, 4), newModel(4)
	b, o := made(t, 200), newModel(200)
	for _, c := range each(0)[:2] {
		do(t, a, m, c)
	}
	same(t, b, o)
	for _, c := range append(each(0), each(1)...) {
		do(t, b, o, c)
	}
	do(t, b, o, call{what: cancel, n: 1, x: 4})
	same(t, a, m)
	do(t, a, m, call{what: due, now: 60})
	same(t, a, m)
	same(t, b, o)
}

// small are the calls at small arenas: of contexts from one number to another one.
func small(from, to int) []call {
	l := []call{{what: due, now: 1}, {what: due, now: 2}}
	for n := from; n <= to; n++ {
		l = append(l,
			call{what: withCancel, n: n}, call{what: withoutCancel, n: n}, call{what: withValue, n: n, x: 1, y: int64(n) + 5},
			call{what: withDeadline, n: n, x: 1, y: 7}, call{what: withDeadline, n: n, x: 2, y: 0}, call{what: withDeadline, n: n, x: 1, y: 8, now: 1},
			call{what: cancel, n: n, x: 9})
	}
	return l
}

// everyWay goes all ways of so many calls at contexts that are there, and behind each one all calls, be they right or wrong.
func everyWay(way []call, many, most int, do func(way []call)) {
	m := newModel(most)
	for _, c := range way {
		if c.what < cancel {
			makesModel(m, c)
		}
	}
	way = slices.Clip(way)
	if many == 0 {
		for _, c := range small(-1, len(m.nodes)) {
			do(append(way, c))
		}
		return
	}
	for _, c := range small(0, len(m.nodes)-1) {
		everyWay(append(way, c), many-1, most, do)
	}
}

// P6.1 to P6.4: every short way, at an arena that is full behind some of them.
func TestEveryShortWay(t *testing.T) {
	everyWay(nil, 3, 4, func(way []call) {
		a, m := made(t, 4), newModel(4)
		for _, c := range way {
			do(t, a, m, c)
		}
		same(t, a, m)
		if t.Failed() {
			t.Fatalf("%+v", way)
		}
	})
}

// step is some call: at a context that there is mostly, with a time near to now mostly.
func step(r *rand.Rand, m *model, now int64) call {
	c := call{what: r.Intn(due + 1), n: r.Intn(len(m.nodes)+2) - 1, x: int64(r.Intn(4)), y: int64(r.Intn(4)), now: now}
	if r.Intn(3) == 0 {
		c.n = len(m.nodes) - 1 - r.Intn(min(3, len(m.nodes)))
	}
	switch {
	case c.what == withDeadline:
		c.x = now - 2 + int64(r.Intn(12))
		if r.Intn(20) == 0 {
			c.x = []int64{earliest, earliest + 1, forever - 1, forever}[r.Intn(4)]
		}
	case c.what == cancel && r.Intn(4) > 0:
		c.what = withCancel
	}
	return c
}

// end is what is told of a context's end.
type end struct {
	done  bool
	err   api.Errno
	cause int64
}

func endOf(a *ctx.Arena, n int) end { return end{a.Done(n), a.Err(n), a.Cause(n)} }

// follows holds what an arena tells, behind a call at a time, against what P6.4 says of it, and of how it was ahead of that.
func follows(t *testing.T, a *ctx.Arena, c call, were []end) {
	t.Helper()
	for n := range a.Len() {
		is := endOf(a, n)
		at, has := a.Deadline(n)
		if n < len(were) && were[n].done && were[n] != is {
			t.Errorf("%d is %v now, was %v", n, is, were[n])
		}
		if is.done != (is.err == canceled || is.err == late) || !is.done && is != (end{}) {
			t.Errorf("%d is %v", n, is)
		}
		if is.err == late && (!has || at > c.now) {
			t.Errorf("%d is late at %d, its deadline is %d, %t", n, c.now, at, has)
		}
		if c.what == due && has && at <= c.now && !is.done {
			t.Errorf("%d isn't done behind Due(%d), its deadline is %d", n, c.now, at)
		}
		for _, r := range a.Reach(n) {
			if is.done && !a.Done(r) {
				t.Errorf("%d is done, %d isn't", n, r)
			}
		}
	}
	if a.Done(0) {
		t.Error("0 is done")
	}
}

// P6.1 to P6.4: long ways, on which an arena and its model answer the same; the time goes on meanwhile.
func TestLongWays(t *testing.T) {
	for seed := range int64(40) {
		r := rand.New(rand.NewSource(seed))
		most := 2 + r.Intn(60)
		if seed%8 == 0 {
			most = 200
		}
		a, m := made(t, most), newModel(most)
		var were []end
		now := int64(r.Intn(20) - 10)
		for i := range most * 2 {
			c := step(r, m, now)
			do(t, a, m, c)
			follows(t, a, c, were)
			if i%16 == 0 {
				same(t, a, m)
			}
			if t.Failed() {
				t.Fatalf("seed %d: step %d: %+v", seed, i, c)
			}
			were = nil
			for n := range a.Len() {
				were = append(were, endOf(a, n))
			}
			now += int64(r.Intn(3)) / 2
		}
		same(t, a, m)
		if t.Failed() {
			t.Fatalf("seed %d", seed)
		}
	}
}

// R4: the same calls answer the same, and asking changes nothing.
func TestTwins(t *testing.T) {
	for seed := range int64(10) {
		a, b := made(t, 60), made(t, 60)
		m, o := newModel(60), newModel(60)
		r := rand.New(rand.NewSource(seed))
		for i := range int64(120) {
			same(t, a, m)
			c := step(r, m, i/6)
			do(t, a, m, c)
			do(t, b, o, c)
		}
		same(t, a, m)
		same(t, b, m)
	}
}
