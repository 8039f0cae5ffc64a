package after_test

import (
	"math"
	"math/rand"
	"slices"
	"testing"

	"countermand/after"
	"countermand/api"
)

// model is a list as plainly as the document says it: its registrations, in the order in which they were added.
type model struct {
	most int
	rows []after.Row
}

func (m *model) add(on, thing int) (int, api.Errno) {
	if len(m.rows) == m.most {
		return -1, api.ErrFull
	}
	m.rows = append(m.rows, after.Row{On: on, Thing: thing, State: after.Waits})
	return len(m.rows) - 1, api.OK
}

func (m *model) stop(n int) bool {
	for i, r := range m.rows {
		if i == n && r.State == after.Waits {
			m.rows[i].State = after.Stopped
			return true
		}
	}
	return false
}

func (m *model) waiting(on int) []int {
	var l []int
	for i, r := range m.rows {
		if r.On == on && r.State == after.Waits {
			l = append(l, i)
		}
	}
	return l
}

func (m *model) fire(on []int) []int {
	var begun []int
	for _, o := range on {
		for _, n := range m.waiting(o) {
			m.rows[n].State = after.Begun
			begun = append(begun, n)
		}
	}
	return begun
}

// ends are numbers at the ends of what an int may be, and about 0.
var ends = []int{0, 1, -1, 2, -2, 200, -200, 1 << 32, -1 << 32, math.MinInt, math.MinInt + 1, math.MaxInt, math.MaxInt - 1}

// outside are numbers of which there is no registration, where there are so many.
func outside(many int) []int {
	return []int{-1, many, -2, many + 1, 201, 200 + many, 1 << 16, 1 << 32, -1 << 16, -1 << 32, math.MinInt, math.MaxInt}
}

func made(t *testing.T, most int) *after.List {
	t.Helper()
	l, e := after.New(most)
	if l == nil || e != api.OK {
		t.Fatalf("New(%d) = %v, %d", most, l, e)
	}
	return l
}

// added adds registrations of these numbers; the things are those of no other.
func added(t *testing.T, most int, on ...int) *after.List {
	t.Helper()
	l := made(t, most)
	for i, o := range on {
		wantAdd(t, l, o, 100+i, i, api.OK)
	}
	return l
}

func wantAdd(t *testing.T, l *after.List, on, thing, want int, wantE api.Errno) {
	t.Helper()
	if n, e := l.Add(on, thing); n != want || e != wantE {
		t.Errorf("Add(%d, %d) = %d, %d, want %d, %d", on, thing, n, e, want, wantE)
	}
}

func wantStop(t *testing.T, l *after.List, n int, want bool) {
	t.Helper()
	if is := l.Stop(n); is != want {
		t.Errorf("Stop(%d) = %t, want %t", n, is, want)
	}
}

func wantList(t *testing.T, what string, got []int, want ...int) {
	t.Helper()
	if !slices.Equal(got, want) {
		t.Errorf("%s = %v, want %v", what, got, want)
	}
}

// wantStates holds the states of all registrations against these.
func wantStates(t *testing.T, l *after.List, want ...int) {
	t.Helper()
	var got []int
	for _, r := range l.Rows() {
		got = append(got, r.State)
	}
	wantList(t, "states", got, want...)
}

// same holds all that a list tells against its model.
func same(t *testing.T, l *after.List, m *model) {
	t.Helper()
	if rows := l.Rows(); !slices.Equal(rows, m.rows) {
		t.Fatalf("Rows() = %v, want %v", rows, m.rows)
	}
	for _, r := range m.rows {
		wantList(t, "Waiting", l.Waiting(r.On), m.waiting(r.On)...)
	}
	for _, on := range append(outside(len(m.rows)), ends...) {
		wantList(t, "Waiting", l.Waiting(on), m.waiting(on)...)
	}
}

// The calls that change a list.
const (
	add = iota
	stop
	fire
)

type call struct {
	what     int
	n, thing int   // what Add or Stop is given
	on       []int // what Fire is given
}

// do makes a call of a list and of its model, holds the answers against each other, and tells who was begun.
func do(t *testing.T, l *after.List, m *model, c call) []int {
	t.Helper()
	switch c.what {
	case add:
		n, e := m.add(c.n, c.thing)
		wantAdd(t, l, c.n, c.thing, n, e)
	case stop:
		wantStop(t, l, c.n, m.stop(c.n))
	case fire:
		begun := l.Fire(c.on...)
		wantList(t, "Fire", begun, m.fire(c.on)...)
		return begun
	}
	return nil
}

// The document's example.
func TestExample(t *testing.T) {
	l := made(t, 200)
	wantAdd(t, l, 7, 1, 0, api.OK)
	wantAdd(t, l, 8, 2, 1, api.OK)
	wantAdd(t, l, 7, 3, 2, api.OK)
	wantStop(t, l, 0, true)
	wantList(t, "Fire(7)", l.Fire(7), 2)
	want := []after.Row{{On: 7, Thing: 1, State: 3}, {On: 8, Thing: 2, State: 1}, {On: 7, Thing: 3, State: 2}}
	if rows := l.Rows(); !slices.Equal(rows, want) {
		t.Errorf("Rows() = %v, want %v", rows, want)
	}
}

// The states are these numbers.
func TestStates(t *testing.T) {
	if after.Waits != 1 || after.Begun != 2 || after.Stopped != 3 {
		t.Error(after.Waits, after.Begun, after.Stopped)
	}
}

// P7.1: of each size that there may be, just so many registrations may be there.
func TestNew(t *testing.T) {
	for most := 1; most <= 200; most++ {
		l, m := made(t, most), &model{most: most}
		same(t, l, m)
		for i := range most {
			do(t, l, m, call{what: add, n: i % 7, thing: i * i})
		}
		same(t, l, m)
		wantAdd(t, l, 0, 0, -1, api.ErrFull)
		wantAdd(t, l, 0, 0, -1, api.ErrFull)
		same(t, l, m)
	}
}

// P7.1
func TestNewOfWrongSizes(t *testing.T) {
	for _, most := range []int{
		0, -1, -2, -200, 201, 202, 255, 256, 257, 1000, 1 << 16, 1<<16 + 1, 1<<32 + 1, -1 << 32, math.MinInt, math.MinInt + 1, math.MaxInt,
	} {
		if l, e := after.New(most); l != nil || e != api.ErrArg {
			t.Errorf("New(%d) = %v, %d, want nil, %d", most, l, e, api.ErrArg)
		}
	}
}

// P7.1, P7.2: in a list without registrations there is nothing to be stopped, begun or told.
func TestEmpty(t *testing.T) {
	l := made(t, 1)
	for _, n := range ends {
		wantStop(t, l, n, false)
		wantList(t, "Fire", l.Fire(n))
		wantList(t, "Waiting", l.Waiting(n))
	}
	wantList(t, "Fire()", l.Fire())
	wantList(t, "Fire of all", l.Fire(ends...))
	if rows := l.Rows(); len(rows) != 0 {
		t.Errorf("Rows() = %v", rows)
	}
	wantAdd(t, l, 0, 0, 0, api.OK)
}

// P7.1: a list is full by all that were added, whatever they are now.
func TestFull(t *testing.T) {
	for _, c := range []struct {
		what   string
		change func(l *after.List)
		states []int
	}{
		{"all wait", func(*after.List) {}, []int{1, 1, 1}},
		{"one stopped", func(l *after.List) { wantStop(t, l, 1, true) }, []int{1, 3, 1}},
		{"the last one stopped", func(l *after.List) { wantStop(t, l, 2, true) }, []int{1, 1, 3}},
		{"one begun", func(l *after.List) { wantList(t, "Fire(5)", l.Fire(5), 1) }, []int{1, 2, 1}},
		{"each in another state", func(l *after.List) { wantStop(t, l, 0, true); wantList(t, "Fire(6)", l.Fire(6), 2) }, []int{3, 1, 2}},
		{"all stopped", func(l *after.List) {
			for n := range 3 {
				wantStop(t, l, n, true)
			}
		}, []int{3, 3, 3}},
		{"all begun", func(l *after.List) { wantList(t, "Fire(6, 5, 4)", l.Fire(6, 5, 4), 2, 1, 0) }, []int{2, 2, 2}},
	} {
		t.Run(c.what, func(t *testing.T) {
			l := added(t, 3, 4, 5, 6)
			c.change(l)
			for _, on := range append([]int{4, 5, 6}, ends...) {
				wantAdd(t, l, on, 1, -1, api.ErrFull)
			}
			wantStates(t, l, c.states...)
			wantList(t, "Waiting(0)", l.Waiting(0))
			wantList(t, "Fire(0)", l.Fire(0))
			wantStop(t, l, 3, false)
			wantStop(t, l, -1, false)
		})
	}
}

// P7.1: numbers count on over what was stopped, begun or refused.
func TestNumbers(t *testing.T) {
	l := made(t, 4)
	wantAdd(t, l, 7, 1, 0, api.OK)
	wantStop(t, l, 0, true)
	wantAdd(t, l, 7, 1, 1, api.OK)
	wantList(t, "Fire(7)", l.Fire(7), 1)
	wantStop(t, l, 2, false)
	wantAdd(t, l, 7, 1, 2, api.OK)
	wantAdd(t, l, 7, 1, 3, api.OK)
	wantAdd(t, l, 7, 1, -1, api.ErrFull)
	wantStop(t, l, 4, false)
	wantStates(t, l, 3, 2, 1, 1)
}

// P7.1: none is stopped by a number of which there is no registration.
func TestStopOfNone(t *testing.T) {
	for _, most := range []int{3, 4, 200} {
		l := added(t, most, 7, 7, 8)
		for _, n := range outside(3) {
			wantStop(t, l, n, false)
		}
		wantStates(t, l, 1, 1, 1)
		wantList(t, "Waiting(7)", l.Waiting(7), 0, 1)
		wantList(t, "Waiting(8)", l.Waiting(8), 2)
	}
}

// P7.1: a registration is stopped once, and not once it was begun; On and Thing are no numbers of registrations.
func TestStop(t *testing.T) {
	l := made(t, 8)
	wantAdd(t, l, 2, 3, 0, api.OK)
	wantAdd(t, l, 2, 3, 1, api.OK)
	wantStop(t, l, 2, false)
	wantStop(t, l, 3, false)
	wantStop(t, l, 0, true)
	wantStop(t, l, 0, false)
	wantList(t, "Fire(2)", l.Fire(2), 1)
	wantStop(t, l, 1, false)
	wantStop(t, l, 0, false)
	wantAdd(t, l, 2, 3, 2, api.OK)
	wantStop(t, l, 0, false)
	wantStop(t, l, 1, false)
	wantStates(t, l, 3, 2, 1)
	wantStop(t, l, 2, true)
	wantStop(t, l, 2, false)
	wantList(t, "Fire(2)", l.Fire(2))
	wantStates(t, l, 3, 2, 3)
	if rows := l.Rows(); !slices.Equal(rows, []after.Row{{On: 2, Thing: 3, State: 3}, {On: 2, Thing: 3, State: 2}, {On: 2, Thing: 3, State: 3}}) {
		t.Errorf("Rows() = %v", rows)
	}
}

// P7.1, P7.2: numbers On and Thing may be any.
func TestAnyNumbers(t *testing.T) {
	l := made(t, 200)
	for i, on := range ends {
		wantAdd(t, l, on, ends[len(ends)-1-i], i, api.OK)
	}
	for i, on := range ends {
		wantList(t, "Waiting", l.Waiting(on), i)
		if r := l.Rows()[i]; r != (after.Row{On: on, Thing: ends[len(ends)-1-i], State: after.Waits}) {
			t.Errorf("row %d = %v", i, r)
		}
	}
	for i, on := range ends {
		wantList(t, "Fire", l.Fire(on), i)
		wantList(t, "Waiting", l.Waiting(on))
		if r := l.Rows()[i]; r != (after.Row{On: on, Thing: ends[len(ends)-1-i], State: after.Begun}) {
			t.Errorf("row %d = %v", i, r)
		}
	}
}

// P7.2: nothing comes of numbers that nobody waits for.
func TestFireOfNone(t *testing.T) {
	l := added(t, 5, 7, 8, 7, 70)
	wantStop(t, l, 3, true)
	wantList(t, "Fire()", l.Fire())
	wantList(t, "Fire of an empty list", l.Fire([]int{}...))
	for _, on := range append([]int{3, 9, 6, -7, -8, 70, 7 + 1<<32, 100, 101}, ends...) {
		wantList(t, "Fire", l.Fire(on))
		wantList(t, "Fire", l.Fire(on, on))
		wantList(t, "Waiting", l.Waiting(on))
	}
	wantList(t, "Fire of all", l.Fire(ends...))
	wantStates(t, l, 1, 1, 1, 3)
	wantList(t, "Waiting(7)", l.Waiting(7), 0, 2)
}

// P7.2: Fire goes by the numbers that it is given, one behind the other; of each, by the order of the registrations.
func TestFire(t *testing.T) {
	on := []int{7, 8, 7, -1, 8, 7}
	for _, c := range []struct {
		fire, want []int
	}{
		{[]int{7}, []int{0, 2, 5}},
		{[]int{8}, []int{1, 4}},
		{[]int{-1}, []int{3}},
		{[]int{7, 8}, []int{0, 2, 5, 1, 4}},
		{[]int{8, 7}, []int{1, 4, 0, 2, 5}},
		{[]int{7, 7}, []int{0, 2, 5}},
		{[]int{8, 7, 8}, []int{1, 4, 0, 2, 5}},
		{[]int{8, 8, 7, 7, 8}, []int{1, 4, 0, 2, 5}},
		{[]int{-1, 8, 7}, []int{3, 1, 4, 0, 2, 5}},
		{[]int{8, -1, 7}, []int{1, 4, 3, 0, 2, 5}},
		{[]int{9, 7}, []int{0, 2, 5}},
		{[]int{7, 9}, []int{0, 2, 5}},
		{[]int{9, 8, 0, -1, 9}, []int{1, 4, 3}},
		{[]int{math.MinInt, -1, math.MaxInt, 8}, []int{3, 1, 4}},
		{[]int{0, 1, 2, 3, 4, 5}, nil},
	} {
		l, m := added(t, 6, on...), &model{most: 6}
		for i, o := range on {
			m.add(o, 100+i)
		}
		m.fire(c.fire)
		wantList(t, "Fire", l.Fire(c.fire...), c.want...)
		same(t, l, m)
		wantList(t, "Fire anew", l.Fire(c.fire...))
		same(t, l, m)
	}
}

// P7.2, P7.3: who was stopped among those of one number isn't begun, and the others stay in their order.
func TestFireBesideStopped(t *testing.T) {
	for mask := range 1 << 5 {
		l := added(t, 10, 7, 8, 7, 8, 7, 7, 9, 7)
		of7 := []int{0, 2, 4, 5, 7}
		var left []int
		states := []int{1, 1, 1, 1, 1, 1, 1, 1}
		// From behind, so that who stands ahead is still there when the others are stopped.
		for i := len(of7) - 1; i >= 0; i-- {
			if n := of7[i]; mask>>i&1 == 1 {
				wantStop(t, l, n, true)
				states[n] = after.Stopped
			} else {
				left = append([]int{n}, left...)
				states[n] = after.Begun
			}
		}
		wantList(t, "Waiting(7)", l.Waiting(7), left...)
		wantList(t, "Waiting(8)", l.Waiting(8), 1, 3)
		wantList(t, "Fire(9, 7)", l.Fire(9, 7), append([]int{6}, left...)...)
		states[6] = after.Begun
		wantStates(t, l, states...)
		wantList(t, "Waiting(7)", l.Waiting(7))
		wantList(t, "Waiting(8)", l.Waiting(8), 1, 3)
		wantList(t, "Fire(8, 7)", l.Fire(8, 7), 1, 3)
	}
}

// P7.2: who is added behind a Fire of its number, or when all others of it were stopped, waits for the next Fire.
func TestAddedBehindFire(t *testing.T) {
	l := added(t, 9, 7, 8)
	wantList(t, "Fire(7)", l.Fire(7), 0)
	wantAdd(t, l, 7, 1, 2, api.OK)
	wantList(t, "Waiting(7)", l.Waiting(7), 2)
	wantAdd(t, l, 7, 1, 3, api.OK)
	wantList(t, "Fire(8)", l.Fire(8), 1)
	wantList(t, "Waiting(7)", l.Waiting(7), 2, 3)
	wantList(t, "Fire(7)", l.Fire(7), 2, 3)
	wantAdd(t, l, 8, 1, 4, api.OK)
	wantStop(t, l, 4, true)
	wantList(t, "Waiting(8)", l.Waiting(8))
	wantAdd(t, l, 8, 1, 5, api.OK)
	wantList(t, "Waiting(8)", l.Waiting(8), 5)
	wantList(t, "Fire(8, 8)", l.Fire(8, 8), 5)
	// A Fire of what nobody waits for yet isn't kept for later.
	wantList(t, "Fire(9)", l.Fire(9))
	wantAdd(t, l, 9, 1, 6, api.OK)
	wantStates(t, l, 2, 2, 2, 2, 3, 2, 1)
	wantList(t, "Fire(9)", l.Fire(9), 6)
}

// P7.2: Rows and Waiting are asked, and change nothing.
func TestAskedOften(t *testing.T) {
	l, m := made(t, 9), &model{most: 9}
	for _, c := range []call{
		{what: add, n: 7}, {what: add, n: 8}, {what: add, n: 7}, {what: stop, n: 0}, {what: fire, on: []int{8}}, {what: add, n: 8},
	} {
		do(t, l, m, c)
		for range 3 {
			same(t, l, m)
		}
	}
}

// R3: lists that were told may be changed, or grown, by whoever got them.
func TestListsAreNew(t *testing.T) {
	l, m := made(t, 20), &model{most: 20}
	both := func(c call) []int { t.Helper(); return do(t, l, m, c) }
	for i := range 12 {
		both(call{what: add, n: 7 + i%2, thing: i})
	}
	both(call{what: stop, n: 3})
	spoil := func(told []int) {
		t.Helper()
		whole := append(told, 99)[:len(told)]
		for _, x := range [][]int{told, whole} {
			x = x[:cap(x)]
			for i := range x {
				x[i] = -9
			}
		}
		same(t, l, m)
	}
	spoilRows := func() {
		t.Helper()
		rows := l.Rows()
		rows = rows[:cap(rows)]
		for i := range rows {
			rows[i] = after.Row{On: 1, Thing: 2, State: 3}
		}
		same(t, l, m)
	}
	spoil(l.Waiting(7))
	spoil(l.Waiting(8))
	spoil(l.Waiting(9))
	spoilRows()
	both(call{what: add, n: 7, thing: 50})
	both(call{what: add, n: 8, thing: 51})
	both(call{what: stop, n: 4})
	same(t, l, m)
	spoil(both(call{what: fire, on: []int{7}}))
	both(call{what: add, n: 7, thing: 52})
	spoilRows()
	both(call{what: add, n: 7, thing: 53})
	spoil(both(call{what: fire, on: []int{9, 7, 8, 7}}))
	spoilRows()
	both(call{what: add, n: 8, thing: 54})
	same(t, l, m)
	spoil(both(call{what: fire, on: []int{8}}))
}

// R3: lists that were told stay as they were, whatever is done later.
func TestListsStay(t *testing.T) {
	l := added(t, 20, 7, 8, 7, 7, 8, 7)
	before, rows := l.Waiting(7), l.Rows()
	wantStop(t, l, 2, true)
	wantAdd(t, l, 7, 1, 6, api.OK)
	wantAdd(t, l, 7, 1, 7, api.OK)
	behind := l.Waiting(7)
	begun := l.Fire(7)
	both := l.Fire(7, 8)
	wantAdd(t, l, 7, 1, 8, api.OK)
	wantAdd(t, l, 8, 1, 9, api.OK)
	wantAdd(t, l, 7, 1, 10, api.OK)
	wantStop(t, l, 8, true)
	wantList(t, "another Fire", l.Fire(8, 7), 9, 10)
	wantAdd(t, l, 7, 1, 11, api.OK)
	wantList(t, "Waiting, as it was at first", before, 0, 2, 3, 5)
	wantList(t, "Waiting, as it was behind Stop", behind, 0, 3, 5, 6, 7)
	wantList(t, "Fire, as it was", begun, 0, 3, 5, 6, 7)
	wantList(t, "Fire of both, as it was", both, 1, 4)
	if len(rows) != 6 {
		t.Fatalf("Rows() had %d", len(rows))
	}
	for i, r := range rows {
		if r.State != after.Waits || r.Thing != 100+i {
			t.Errorf("row %d = %v", i, r)
		}
	}
}

// R3: what Fire is given stays as it was, also what lies behind it, and may be changed later.
func TestFireLeavesItsNumbers(t *testing.T) {
	l := added(t, 20, 7, 8, 7, 9, 8)
	whole := []int{8, 7, 6, 8, 55, 66, 77, 88}
	on := whole[:4]
	begun := l.Fire(on...)
	wantList(t, "the numbers", whole, 8, 7, 6, 8, 55, 66, 77, 88)
	for i := range whole {
		whole[i] = 9
	}
	wantList(t, "Fire", begun, 1, 4, 0, 2)
	wantList(t, "Waiting(9)", l.Waiting(9), 3)
	wantList(t, "Fire of what it told", l.Fire(l.Waiting(9)...))
	wantStates(t, l, 2, 2, 2, 1, 2)
	wantList(t, "Fire of many", l.Fire(slices.Repeat([]int{6, 9, 7}, 5000)...), 3)
}

// R5: lists have nothing of each other.
func TestListsApart(t *testing.T) {
	a, b := made(t, 4), made(t, 9)
	ma, mb := &model{most: 4}, &model{most: 9}
	for _, c := range []call{
		{what: add, n: 7, thing: 1}, {what: add, n: 8, thing: 2}, {what: add, n: 7, thing: 3}, {what: add, n: 7, thing: 4}, {what: add, n: 7, thing: 5},
	} {
		do(t, a, ma, c)
		same(t, b, mb)
	}
	do(t, b, mb, call{what: add, n: 7, thing: 9})
	same(t, a, ma)
	do(t, a, ma, call{what: stop, n: 0})
	same(t, b, mb)
	do(t, b, mb, call{what: fire, on: []int{7, 8}})
	same(t, a, ma)
	do(t, a, ma, call{what: fire, on: []int{7}})
	same(t, b, mb)
	same(t, a, ma)
}

// small are the calls of which short ways are made.
func small() []call {
	return []call{
		{what: add, n: 0, thing: 5}, {what: add, n: 1, thing: 5}, {what: add, n: 2, thing: 1},
		{what: stop, n: 0}, {what: stop, n: 1}, {what: stop, n: 2}, {what: stop, n: -1},
		{what: fire}, {what: fire, on: []int{0}}, {what: fire, on: []int{1, 0}}, {what: fire, on: []int{2, 2, 1}},
	}
}

// P7.1, P7.2: every way of five calls; lists of three are full on some of them.
func TestShortWays(t *testing.T) {
	calls := small()
	many := 1
	for range 5 {
		many *= len(calls)
	}
	for way := range many {
		l, m := made(t, 3), &model{most: 3}
		rest := way
		for range 5 {
			do(t, l, m, calls[rest%len(calls)])
			rest /= len(calls)
		}
		if rows := l.Rows(); !slices.Equal(rows, m.rows) {
			t.Fatalf("way %d: %v, want %v", way, rows, m.rows)
		}
		for on := range 4 {
			wantList(t, "Waiting", l.Waiting(on), m.waiting(on)...)
		}
		if t.Failed() {
			t.Fatalf("way %d", way)
		}
	}
}

// randomCall tells a call of a way: of few numbers On, so that several wait for one.
func randomCall(r *rand.Rand, most, kinds int) call {
	on := func() int {
		if r.Intn(20) == 0 {
			return ends[r.Intn(len(ends))]
		}
		return r.Intn(kinds) - kinds/2
	}
	switch what := r.Intn(6); {
	case what < 3:
		return call{what: add, n: on(), thing: r.Int() - r.Int()}
	case what < 5:
		return call{what: stop, n: r.Intn(most+4) - 2}
	}
	c := call{what: fire}
	for range r.Intn(4) {
		c.on = append(c.on, on())
	}
	return c
}

// history is what happened to each registration on a way, as P7.3 speaks of it.
type history struct {
	on             []int
	begun, stopped []int // how often
}

func (h *history) note(t *testing.T, c call, l *after.List, begun []int, waited []int) {
	t.Helper()
	for n := len(h.on); n < len(l.Rows()); n++ {
		h.on, h.begun, h.stopped = append(h.on, c.n), append(h.begun, 0), append(h.stopped, 0)
	}
	for _, n := range begun {
		if h.begun[n]++; h.begun[n] > 1 || h.stopped[n] > 0 {
			t.Errorf("%d was begun %d times, stopped %d times", n, h.begun[n], h.stopped[n])
		}
		if !slices.Contains(c.on, h.on[n]) {
			t.Errorf("%d was begun by %v, waits for %d", n, c.on, h.on[n])
		}
	}
	for _, n := range waited {
		if !slices.Contains(begun, n) {
			t.Errorf("%d wasn't begun by %v", n, c.on)
		}
	}
	for n, row := range l.Rows() {
		if h.stopped[n] == 0 && row.State == after.Stopped {
			h.stopped[n]++
		}
		if row.State != []int{after.Waits, after.Begun, after.Stopped}[h.begun[n]+2*h.stopped[n]] {
			t.Errorf("%d is %v, was begun %d times, stopped %d times", n, row, h.begun[n], h.stopped[n])
		}
	}
}

// P7.1 to P7.3, on long ways.
func TestLongWays(t *testing.T) {
	for _, most := range []int{1, 2, 5, 16, 60, 200} {
		for seed := range int64(40) {
			r := rand.New(rand.NewSource(seed*1000 + int64(most)))
			l, m, h := made(t, most), &model{most: most}, &history{}
			kinds := 1 + r.Intn(8)
			for step := range 4 * most {
				c := randomCall(r, most, kinds)
				var waited []int
				for _, on := range c.on {
					waited = append(waited, l.Waiting(on)...)
				}
				h.note(t, c, l, do(t, l, m, c), waited)
				if step%8 == 0 {
					same(t, l, m)
				}
				if t.Failed() {
					t.Fatalf("most %d, seed %d, step %d: %+v", most, seed, step, c)
				}
			}
			same(t, l, m)
		}
	}
}

// R4: the same calls tell the same, whatever the order in which a map is gone through.
func TestTwins(t *testing.T) {
	for seed := range int64(50) {
		var first [][]int
		for twin := range 3 {
			r := rand.New(rand.NewSource(seed))
			l := made(t, 60)
			var told [][]int
			for range 150 {
				switch c := randomCall(r, 60, 9); c.what {
				case add:
					n, _ := l.Add(c.n, c.thing)
					told = append(told, []int{n})
				case stop:
					l.Stop(c.n)
				case fire:
					told = append(told, l.Fire(c.on...))
				}
			}
			if twin == 0 {
				first = told
			} else if !slices.EqualFunc(told, first, slices.Equal[[]int]) {
				t.Fatalf("seed %d: %v, then %v", seed, first, told)
			}
		}
	}
}
