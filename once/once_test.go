package once_test

import (
	"math"
	"math/rand"
	"slices"
	"testing"

	"countermand/api"
	"countermand/once"
)

const none = -1

// model is a thing as plainly as the document says it: what it is, by whom it is being done, and a list of those who wait.
type model struct {
	tasks, state, by int
	row              []int
}

func fresh(tasks int) *model { return &model{tasks, once.Fresh, none, nil} }

func doing(tasks, by int, row ...int) *model { return &model{tasks, once.Doing, by, row} }

func done(tasks int) *model { return &model{tasks, once.Done, none, nil} }

func (m *model) clone() *model { return &model{m.tasks, m.state, m.by, slices.Clone(m.row)} }

func (m *model) hasTask(t int) bool { return 0 <= t && t < m.tasks }

func (m *model) begin(t int) (int, api.Errno) {
	switch {
	case !m.hasTask(t):
		return 0, api.ErrName
	case slices.Contains(m.row, t):
		return 0, api.ErrWaits
	case m.by == t:
		return 0, api.ErrHeld
	case m.state == once.Fresh:
		m.state, m.by = once.Doing, t
		return once.Fresh, api.OK
	case m.state == once.Doing:
		m.row = append(slices.Clone(m.row), t)
		return once.Doing, api.OK
	}
	return once.Done, api.OK
}

func (m *model) end(t int) ([]int, api.Errno) {
	switch {
	case !m.hasTask(t):
		return nil, api.ErrName
	case m.by != t:
		return nil, api.ErrHeld
	}
	told := m.row
	m.state, m.by, m.row = once.Done, none, nil
	return told, api.OK
}

func (m *model) leave(t int) bool {
	if !slices.Contains(m.row, t) {
		return false
	}
	m.row = without(m.row, t)
	return true
}

// without is a list without one of its numbers.
func without(list []int, t int) []int {
	return slices.DeleteFunc(slices.Clone(list), func(n int) bool { return n == t })
}

// make builds a thing that stands as the model does; what is done was done by the last task there is.
func (m *model) make(t *testing.T) *once.Once {
	t.Helper()
	o := made(t, m.tasks)
	switch m.state {
	case once.Doing:
		wantBegin(t, o, m.by, once.Fresh, api.OK)
		for _, n := range m.row {
			wantBegin(t, o, n, once.Doing, api.OK)
		}
	case once.Done:
		wantBegin(t, o, m.tasks-1, once.Fresh, api.OK)
		wantEnd(t, o, m.tasks-1, api.OK)
	}
	stands(t, o, m)
	return o
}

// outside are numbers of which there is no task, where there are so many.
func outside(many int) []int {
	return []int{
		-1, many, -2, many + 1, 999 + many, 1000 + many, 1 << 16, 1<<16 - 1, 1 << 32, 1<<32 + 1, -1 << 16, -1 << 32,
		math.MinInt, math.MinInt + 1, math.MaxInt, math.MaxInt - 1,
	}
}

func made(t *testing.T, tasks int) *once.Once {
	t.Helper()
	o, e := once.New(tasks)
	if o == nil || e != api.OK {
		t.Fatalf("New(%d) = %v, %d", tasks, o, e)
	}
	return o
}

func wantBegin(t *testing.T, o *once.Once, n, was int, want api.Errno) {
	t.Helper()
	if is, e := o.Begin(n); is != was || e != want {
		t.Errorf("Begin(%d) = %d, %d, want %d, %d", n, is, e, was, want)
	}
}

func wantEnd(t *testing.T, o *once.Once, n int, want api.Errno, told ...int) {
	t.Helper()
	if l, e := o.End(n); !slices.Equal(l, told) || e != want {
		t.Errorf("End(%d) = %v, %d, want %v, %d", n, l, e, told, want)
	}
}

func wantLeave(t *testing.T, o *once.Once, n int, want bool) {
	t.Helper()
	if is := o.Leave(n); is != want {
		t.Errorf("Leave(%d) = %t, want %t", n, is, want)
	}
}

// stands holds all that a thing tells against its model.
func stands(t *testing.T, o *once.Once, m *model) {
	t.Helper()
	if n := o.State(); n != m.state {
		t.Errorf("State() = %d, want %d", n, m.state)
	}
	if n := o.By(); n != m.by {
		t.Errorf("By() = %d, want %d", n, m.by)
	}
	if l := o.Waiting(); !slices.Equal(l, m.row) {
		t.Errorf("Waiting() = %v, want %v", l, m.row)
	}
}

// The calls that change a thing.
const (
	begin = iota
	end
	leave
	calls
)

// do makes a call of a thing and of its model, and holds what they answer, and how they stand then, against each other.
func do(t *testing.T, o *once.Once, m *model, what, n int) {
	t.Helper()
	switch what {
	case begin:
		was, e := m.begin(n)
		wantBegin(t, o, n, was, e)
	case end:
		told, e := m.end(n)
		wantEnd(t, o, n, e, told...)
	case leave:
		wantLeave(t, o, n, m.leave(n))
	}
	stands(t, o, m)
}

// arrangements are all rows that these tasks can make, or some of them.
func arrangements(tasks int) [][]int {
	all := [][]int{nil}
	for from := 0; from < len(all); from++ {
		for n := range tasks {
			if row := all[from]; !slices.Contains(row, n) {
				all = append(all, append(slices.Clone(row), n))
			}
		}
	}
	return all
}

// beingDone are all things of so many tasks that are being done, by whomever, and whoever waits.
func beingDone(tasks int) []*model {
	var all []*model
	for _, row := range arrangements(tasks) {
		for by := range tasks {
			if !slices.Contains(row, by) {
				all = append(all, doing(tasks, by, row...))
			}
		}
	}
	return all
}

// things are all things of so many tasks.
func things(tasks int) []*model { return append(beingDone(tasks), fresh(tasks), done(tasks)) }

// The document's example.
func TestExample(t *testing.T) {
	o := made(t, 4)
	wantBegin(t, o, 1, once.Fresh, api.OK)
	wantBegin(t, o, 3, once.Doing, api.OK)
	wantBegin(t, o, 2, once.Doing, api.OK)
	wantEnd(t, o, 1, api.OK, 3, 2)
	stands(t, o, done(4))
}

// The document's numbers of what a thing is, as constants of whatever type of number is asked for.
func TestNumbersOfStates(t *testing.T) {
	var f, b, d int64 = once.Fresh, once.Doing, once.Done
	if f != 0 || b != 1 || d != 2 {
		t.Errorf("Fresh %d, Doing %d, Done %d, want 0, 1, 2", f, b, d)
	}
}

// P11.1: of each size that there may be, just those tasks are there.
func TestNew(t *testing.T) {
	for _, tasks := range []int{1, 2, 3, 16, 255, 256, 257, 999, 1000} {
		o := made(t, tasks)
		stands(t, o, fresh(tasks))
		for _, n := range outside(tasks) {
			wantBegin(t, o, n, 0, api.ErrName)
			wantEnd(t, o, n, api.ErrName)
			wantLeave(t, o, n, false)
		}
		stands(t, o, fresh(tasks))
		for n := range tasks {
			wantEnd(t, o, n, api.ErrHeld)
			wantLeave(t, o, n, false)
			one := made(t, tasks)
			wantBegin(t, one, n, once.Fresh, api.OK)
			stands(t, one, doing(tasks, n))
		}
		stands(t, o, fresh(tasks))
	}
}

// P11.1
func TestNewOfWrongSizes(t *testing.T) {
	for _, tasks := range []int{
		0, -1, -2, -1000, 1001, 1002, 2000, 1 << 16, 1<<16 + 1, 1 << 32, 1<<32 + 1, -1 << 32, math.MinInt, math.MinInt + 1, math.MaxInt,
	} {
		if o, e := once.New(tasks); o != nil || e != api.ErrArg {
			t.Errorf("New(%d) = %v, %d, want nil, %d", tasks, o, e, api.ErrArg)
		}
	}
}

// P11.1: what it is is told as a number, and by whom it is being done as the task, the least and the greatest ones too,
// or as -1, of one that is fresh and of one that is done.
func TestStateAndBy(t *testing.T) {
	for _, n := range []int{0, 1, 5, 998, 999} {
		o := made(t, 1000)
		for _, want := range [][2]int{{0, -1}, {1, n}, {2, -1}} {
			for range 2 {
				if is, by := o.State(), o.By(); is != want[0] || by != want[1] {
					t.Errorf("State() = %d, By() = %d, want %v", is, by, want)
				}
			}
			o.Begin(n)
			if want[0] == once.Doing {
				o.End(n)
			}
		}
	}
}

// P11.1: those who wait are told in the order in which they came, not in that of their numbers, and go on waiting; who
// does it isn't told among them.
func TestWaiting(t *testing.T) {
	for _, row := range [][]int{
		nil, {0}, {5}, {1, 2}, {2, 1}, {5, 0, 1, 2}, {4, 5, 1, 0, 2}, {6}, {6, 0}, {5, 6, 4, 0, 1, 2}, {0, 1, 2, 4, 5, 6},
	} {
		m := doing(7, 3, row...)
		o := m.make(t)
		for range 3 {
			stands(t, o, m)
		}
		wantEnd(t, o, 3, api.OK, row...)
	}
}

// P11.2: a fresh one is being done by who begins it, and nobody waits.
func TestBeginOfFresh(t *testing.T) {
	for n := range 5 {
		o := made(t, 5)
		wantBegin(t, o, n, 0, api.OK)
		stands(t, o, doing(5, n))
	}
}

// P11.2: of one that is being done all others wait, each behind all.
func TestBeginOfBeingDone(t *testing.T) {
	o, row := doing(6, 2).make(t), []int{3, 1, 5, 0, 4}
	for i, n := range row {
		wantBegin(t, o, n, 1, api.OK)
		stands(t, o, doing(6, 2, row[:i+1]...))
	}
}

// P11.2: of one that is done nothing changes, whoever asks: who did it, who waited, who left, who never came; and however
// often.
func TestBeginOfDone(t *testing.T) {
	for _, from := range beingDone(4) {
		o := from.make(t)
		wantLeaves(t, o, from.row[:len(from.row)/2]...)
		wantEnd(t, o, from.by, api.OK, from.row[len(from.row)/2:]...)
		for range 2 {
			for n := range 4 {
				wantBegin(t, o, n, 2, api.OK)
				stands(t, o, done(4))
			}
		}
	}
}

// wantLeaves lets these leave, all of whom wait.
func wantLeaves(t *testing.T, o *once.Once, tasks ...int) {
	t.Helper()
	for _, n := range tasks {
		wantLeave(t, o, n, true)
	}
}

// P11.2: who waits already doesn't wait once more, wherever it stands; nothing is changed.
func TestWaitsAlready(t *testing.T) {
	for _, from := range beingDone(4) {
		o := from.make(t)
		for _, n := range from.row {
			wantBegin(t, o, n, 0, api.ErrWaits)
			stands(t, o, from)
		}
		wantEnd(t, o, from.by, api.OK, from.row...)
	}
}

// P11.2: who does it doesn't begin it once more while it does it, be it that nobody waits, or several; nothing is changed.
func TestDoesItAlready(t *testing.T) {
	for _, from := range beingDone(4) {
		o := from.make(t)
		for range 2 {
			wantBegin(t, o, from.by, 0, api.ErrHeld)
			stands(t, o, from)
		}
		wantEnd(t, o, from.by, api.OK, from.row...)
	}
}

// P11.2, P11.3: the same one begins, and begins once more while it does it, while another one waits, and behind the end.
func TestBeginsOnceMore(t *testing.T) {
	o := made(t, 3)
	wantBegin(t, o, 2, once.Fresh, api.OK)
	wantBegin(t, o, 2, 0, api.ErrHeld)
	wantBegin(t, o, 0, once.Doing, api.OK)
	wantBegin(t, o, 2, 0, api.ErrHeld)
	wantBegin(t, o, 0, 0, api.ErrWaits)
	stands(t, o, doing(3, 2, 0))
	wantEnd(t, o, 2, api.OK, 0)
	wantBegin(t, o, 2, once.Done, api.OK)
	wantBegin(t, o, 0, once.Done, api.OK)
	wantEnd(t, o, 2, api.ErrHeld)
	stands(t, o, done(3))
}

// P11.2, P11.3: of no such task that is told ahead of all else, whatever the thing is; nothing is changed.
func TestNoSuchTask(t *testing.T) {
	for _, from := range things(3) {
		o := from.make(t)
		for _, n := range outside(3) {
			wantBegin(t, o, n, 0, api.ErrName)
			stands(t, o, from)
			wantEnd(t, o, n, api.ErrName)
			stands(t, o, from)
			wantLeave(t, o, n, false)
			stands(t, o, from)
		}
	}
}

// P11.3: who does it ends it: it is done, nobody waits any more, and all who did are told, in order.
func TestEnd(t *testing.T) {
	for _, from := range beingDone(5) {
		o := from.make(t)
		wantEnd(t, o, from.by, api.OK, from.row...)
		stands(t, o, done(5))
		for n := range 5 {
			wantLeave(t, o, n, false)
		}
		wantEnd(t, o, from.by, api.ErrHeld)
		stands(t, o, done(5))
	}
}

// P11.3: who doesn't do it doesn't end it: who waits, who does neither, anybody of one that is fresh or done; nothing is
// changed.
func TestEndOfNotDoing(t *testing.T) {
	all := append(things(4), doing(1000, 999, 0, 998), doing(1000, 0, 999), fresh(1000), done(1000))
	for _, from := range all {
		o := from.make(t)
		for n := range from.tasks {
			if n == from.by {
				continue
			}
			wantEnd(t, o, n, api.ErrHeld)
			stands(t, o, from)
		}
	}
}

// P11.3: who waits first, last, between others or alone leaves, and the others stay in their order; who does it goes on.
func TestLeave(t *testing.T) {
	for _, from := range beingDone(5) {
		for _, n := range from.row {
			o, others := from.make(t), without(from.row, n)
			wantLeave(t, o, n, true)
			stands(t, o, doing(5, from.by, others...))
			wantLeave(t, o, n, false)
			stands(t, o, doing(5, from.by, others...))
			wantEnd(t, o, n, api.ErrHeld)
			wantEnd(t, o, from.by, api.OK, others...)
			stands(t, o, done(5))
		}
	}
}

// P11.3: who doesn't wait doesn't leave: who does it, who never came, who left, who was told, anybody of one that is fresh or
// done; nothing is changed.
func TestLeaveOfNotWaiting(t *testing.T) {
	for _, from := range things(4) {
		o := from.make(t)
		for n := range 4 {
			if slices.Contains(from.row, n) {
				continue
			}
			wantLeave(t, o, n, false)
			stands(t, o, from)
		}
	}
	o := doing(5, 3, 0, 4, 1).make(t)
	wantLeave(t, o, 4, true)
	for _, n := range []int{2, 3, 4} {
		wantLeave(t, o, n, false)
		stands(t, o, doing(5, 3, 0, 1))
	}
	wantEnd(t, o, 3, api.OK, 0, 1)
	for n := range 5 {
		wantLeave(t, o, n, false)
		stands(t, o, done(5))
	}
}

// P11.3: all leave, in whatever order, and nobody is told when it ends.
func TestAllLeave(t *testing.T) {
	for _, order := range arrangements(4) {
		if len(order) < 4 {
			continue
		}
		o := doing(5, 4, 3, 1, 0, 2).make(t)
		wantLeaves(t, o, order...)
		stands(t, o, doing(5, 4))
		wantBegin(t, o, 4, 0, api.ErrHeld)
		wantEnd(t, o, 4, api.OK)
		stands(t, o, done(5))
	}
}

// P11.2, P11.3: who left may wait again, behind those who came meanwhile.
func TestWaitsAgain(t *testing.T) {
	o := doing(6, 5, 0, 1).make(t)
	wantLeave(t, o, 0, true)
	wantBegin(t, o, 2, once.Doing, api.OK)
	wantBegin(t, o, 0, once.Doing, api.OK)
	wantBegin(t, o, 0, 0, api.ErrWaits)
	stands(t, o, doing(6, 5, 1, 2, 0))
	wantLeaves(t, o, 2, 1, 0)
	wantBegin(t, o, 1, once.Doing, api.OK)
	wantBegin(t, o, 3, once.Doing, api.OK)
	wantBegin(t, o, 2, once.Doing, api.OK)
	wantLeave(t, o, 1, true)
	wantBegin(t, o, 1, once.Doing, api.OK)
	stands(t, o, doing(6, 5, 3, 2, 1))
	wantEnd(t, o, 5, api.OK, 3, 2, 1)
	wantBegin(t, o, 3, once.Done, api.OK)
	stands(t, o, done(6))
}

// spoil changes a list that was told, and what stands behind it.
func spoil(list []int) {
	for i := range list {
		list[i] = 77
	}
	_ = append(list, 77, 78)
	_ = append(list[:0], 79)
	all := list[:cap(list)]
	for i := range all {
		all[i] = 80
	}
}

// P11.1, P11.3: a list that was told is the asker's own: whoever changes it changes nothing that is kept.
func TestListsAreNew(t *testing.T) {
	for _, from := range beingDone(4) {
		o := from.make(t)
		for range 2 {
			spoil(o.Waiting())
			stands(t, o, from)
		}
		told, e := o.End(from.by)
		if !slices.Equal(told, from.row) || e != api.OK {
			t.Errorf("End(%d) = %v, %d, want %v, 0", from.by, told, e, from.row)
		}
		spoil(told)
		spoil(o.Waiting())
		stands(t, o, done(4))
	}
}

// P11.1, P11.3: a list that was told stays as it was, whatever is done later, and has nothing in common with another one.
func TestListsStay(t *testing.T) {
	o := doing(6, 2, 3, 1, 5, 0).make(t)
	waiting, same := o.Waiting(), o.Waiting()
	spoil(same)
	wantLeave(t, o, 5, true)
	fewer := o.Waiting()
	wantLeave(t, o, 3, true)
	wantBegin(t, o, 4, once.Doing, api.OK)
	wantBegin(t, o, 3, once.Doing, api.OK)
	last := o.Waiting()
	told, _ := o.End(2)
	spoil(o.Waiting())
	for n := range 6 {
		wantBegin(t, o, n, once.Done, api.OK)
	}
	for i, list := range []struct{ is, was []int }{
		{waiting, []int{3, 1, 5, 0}},
		{fewer, []int{3, 1, 0}},
		{last, []int{1, 0, 4, 3}},
		{told, []int{1, 0, 4, 3}},
	} {
		if !slices.Equal(list.is, list.was) {
			t.Errorf("list %d that was told as %v is %v now", i, list.was, list.is)
		}
	}
	spoil(last)
	if !slices.Equal(told, []int{1, 0, 4, 3}) {
		t.Errorf("two lists that were told have something in common: %v", told)
	}
}

// P11.1: two things have nothing in common: who does one may wait for the other one.
func TestThingsAreApart(t *testing.T) {
	a, b := doing(3, 1, 2, 0).make(t), made(t, 3)
	stands(t, b, fresh(3))
	wantBegin(t, b, 2, once.Fresh, api.OK)
	wantBegin(t, b, 1, once.Doing, api.OK)
	wantEnd(t, a, 1, api.OK, 2, 0)
	stands(t, a, done(3))
	stands(t, b, doing(3, 2, 1))
	wantEnd(t, b, 2, api.OK, 1)
}

// P11.1 to P11.3 of a thing with one task alone.
func TestOneTask(t *testing.T) {
	o := made(t, 1)
	wantEnd(t, o, 0, api.ErrHeld)
	wantLeave(t, o, 0, false)
	wantBegin(t, o, 1, 0, api.ErrName)
	stands(t, o, fresh(1))
	wantBegin(t, o, 0, once.Fresh, api.OK)
	wantBegin(t, o, 0, 0, api.ErrHeld)
	wantLeave(t, o, 0, false)
	wantEnd(t, o, 1, api.ErrName)
	stands(t, o, doing(1, 0))
	wantEnd(t, o, 0, api.OK)
	wantEnd(t, o, 0, api.ErrHeld)
	wantBegin(t, o, 0, once.Done, api.OK)
	stands(t, o, done(1))
}

// P11.1 to P11.3 at the greatest size: all others wait, every third one leaves, some come back, and the rest is told.
func TestGreatest(t *testing.T) {
	for _, by := range []int{0, 500, 999} {
		o, m := made(t, 1000), fresh(1000)
		do(t, o, m, begin, by)
		for i := range 1000 {
			do(t, o, m, begin, i*7%1000)
		}
		for n := 0; n < 1000; n += 3 {
			do(t, o, m, leave, n)
		}
		for n := 0; n < 1000; n += 6 {
			do(t, o, m, begin, n)
		}
		do(t, o, m, end, 501)
		do(t, o, m, end, by)
		for n := range 1000 {
			do(t, o, m, begin, n)
		}
		stands(t, o, done(1000))
	}
}

// P11.1 to P11.3: whatever is called, be it right or wrong, of small things, whatever they are, and what each one says of
// every call that comes then.
func TestEveryStepOfSmallThings(t *testing.T) {
	for tasks := 1; tasks <= 4; tasks++ {
		for _, from := range things(tasks) {
			everyTwoCalls(t, from)
		}
	}
}

func everyTwoCalls(t *testing.T, from *model) {
	t.Helper()
	for first := range calls {
		for a := -1; a <= from.tasks; a++ {
			for second := range calls {
				for b := -1; b <= from.tasks; b++ {
					o, m := from.make(t), from.clone()
					do(t, o, m, first, a)
					do(t, o, m, second, b)
					if t.Failed() {
						t.Fatalf("%v, then call %d of %d, then %d of %d", *from, first, a, second, b)
					}
				}
			}
		}
	}
}

// P11.1 to P11.3: long ways, on which nothing is left of what was.
func TestLongWays(t *testing.T) {
	for seed := range int64(300) {
		r := rand.New(rand.NewSource(seed))
		tasks := 1 + r.Intn(10)
		o, m := made(t, tasks), fresh(tasks)
		for range 200 {
			what, n := r.Intn(calls), r.Intn(tasks+2)-1
			if what == end && n == m.by && r.Intn(8) > 0 {
				n = r.Intn(tasks) // so that it is being done for a while
			}
			do(t, o, m, what, n)
			if t.Failed() {
				t.Fatalf("seed %d: call %d of %d", seed, what, n)
			}
		}
	}
}

// P11.4: whoever comes, leaves and ends, in whatever order, it is begun by one alone, and ended once, by that one.
func TestBegunByOneAndEndedOnce(t *testing.T) {
	ended := 0
	for seed := range int64(400) {
		r := rand.New(rand.NewSource(seed))
		o, begun, ends := made(t, 6), []int{}, []int{}
		for range 60 {
			n := r.Intn(8) - 1
			switch r.Intn(6) {
			case 0:
				if _, e := o.End(n); e == api.OK {
					ends = append(ends, n)
				}
			case 1, 2:
				o.Leave(n)
			default:
				if was, e := o.Begin(n); e == api.OK && was == once.Fresh {
					begun = append(begun, n)
				}
			}
		}
		if len(begun) != 1 || len(ends) > 1 || len(ends) == 1 && ends[0] != begun[0] {
			t.Fatalf("seed %d: begun by %v, ended by %v", seed, begun, ends)
		}
		ended += len(ends)
	}
	if ended < 100 {
		t.Errorf("%d were ended only", ended)
	}
}

// P11.4: what is done stays so, whatever is called, and whoever waited for it.
func TestWhatIsDoneStaysSo(t *testing.T) {
	for _, from := range beingDone(4) {
		o := from.make(t)
		wantEnd(t, o, from.by, api.OK, from.row...)
		for range 2 {
			for n := -1; n <= 4; n++ {
				o.Begin(n)
				stands(t, o, done(4))
				if told, e := o.End(n); e == api.OK || len(told) > 0 {
					t.Fatalf("%v: ended once more by %d, who is told: %v", *from, n, told)
				}
				o.Leave(n)
				stands(t, o, done(4))
			}
		}
	}
}

// P11.4: it is fresh, then being done, then done, and never what it was ahead of that; who does it stays the same.
func TestGoesOnOnly(t *testing.T) {
	for seed := range int64(200) {
		r := rand.New(rand.NewSource(seed))
		o := made(t, 5)
		for range 80 {
			state, by := o.State(), o.By()
			switch n := r.Intn(7) - 1; r.Intn(5) {
			case 0:
				o.End(n)
			case 1:
				o.Leave(n)
			default:
				o.Begin(n)
			}
			if o.State() < state || o.State() > state+1 {
				t.Fatalf("seed %d: it was %d, and is %d", seed, state, o.State())
			}
			if state == once.Doing && o.State() == state && o.By() != by {
				t.Fatalf("seed %d: done by %d, and then by %d", seed, by, o.By())
			}
			if (o.By() != none) != (o.State() == once.Doing) {
				t.Fatalf("seed %d: it is %d, by %d", seed, o.State(), o.By())
			}
		}
	}
}

// P11.4: nobody waits for what isn't being done: not for what is fresh, nor for what is done; and whoever waited is told once,
// unless it left.
func TestNobodyWaitsForWhatIsNotBeingDone(t *testing.T) {
	told := 0
	for seed := range int64(300) {
		r := rand.New(rand.NewSource(seed))
		o, came := made(t, 6), []int{}
		for range 60 {
			n := r.Intn(6)
			switch r.Intn(8) {
			case 0:
				l, e := o.End(n)
				if e != api.OK {
					break
				}
				if !slices.Equal(l, came) {
					t.Fatalf("seed %d: %v waited, and %v are told", seed, came, l)
				}
				told, came = told+len(l), []int{}
			case 1, 2:
				if o.Leave(n) {
					came = without(came, n)
				}
			default:
				if was, e := o.Begin(n); e == api.OK && was == once.Doing {
					came = append(came, n)
				}
			}
			if l := o.Waiting(); o.State() != once.Doing && len(l) > 0 || !slices.Equal(l, came) {
				t.Fatalf("seed %d: it is %d, %v wait, and those who came are %v", seed, o.State(), l, came)
			}
		}
	}
	if told < 100 {
		t.Errorf("%d were told only", told)
	}
}
