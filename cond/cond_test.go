package cond_test

import (
	"math"
	"math/rand"
	"slices"
	"testing"

	"countermand/api"
	"countermand/cond"
)

// model is a condition as plainly as the document says it: a list of those who wait.
type model struct {
	tasks int
	row   []cond.Told
}

func (m *model) clone() *model { return &model{m.tasks, slices.Clone(m.row)} }

// index tells where a task stands in the row; -1: it doesn't.
func (m *model) index(t int) int {
	return slices.IndexFunc(m.row, func(x cond.Told) bool { return x.Task == t })
}

func (m *model) wait(t, lock int) api.Errno {
	switch {
	case t < 0 || t >= m.tasks:
		return api.ErrName
	case m.index(t) >= 0:
		return api.ErrWaits
	}
	m.row = append(slices.Clone(m.row), cond.Told{Task: t, Lock: lock})
	return api.OK
}

func (m *model) signal() []cond.Told {
	if len(m.row) == 0 {
		return nil
	}
	told := m.row[:1]
	m.row = m.row[1:]
	return told
}

func (m *model) broadcast() []cond.Told {
	told := m.row
	m.row = nil
	return told
}

func (m *model) leave(t int) (cond.Told, bool) {
	i := m.index(t)
	if i < 0 {
		return cond.Told{}, false
	}
	x := m.row[i]
	m.row = slices.Concat(m.row[:i], m.row[i+1:])
	return x, true
}

// make builds a condition that stands as the model does.
func (m *model) make(t *testing.T) *cond.Cond {
	t.Helper()
	return waited(t, m.tasks, m.row...)
}

// outside are numbers of which there is no task, where there are so many.
func outside(many int) []int {
	return []int{
		-1, many, -2, many + 1, 999 + many, 1000 + many, 1 << 16, 1<<16 - 1, 1 << 32, 1<<32 + 1, -1 << 16, -1 << 32,
		math.MinInt, math.MinInt + 1, math.MaxInt, math.MaxInt - 1,
	}
}

// lockNumbers are numbers of all kinds that may be left.
func lockNumbers() []int {
	return []int{
		0, 1, -1, 3, -7, 999, 1000, 1 << 15, -1<<15 - 1, 1<<16 + 1, 1 << 31, -1<<31 - 1, 1 << 32, 1<<32 + 2,
		math.MinInt, math.MinInt + 1, math.MaxInt, math.MaxInt - 1,
	}
}

// left are these tasks, each with the number that it leaves; numbers differ from task to task, and none is its task's own.
func left(tasks ...int) []cond.Told {
	var all []cond.Told
	for _, n := range tasks {
		all = append(all, cond.Told{Task: n, Lock: 70 - 3*n})
	}
	return all
}

func made(t *testing.T, tasks int) *cond.Cond {
	t.Helper()
	c, e := cond.New(tasks)
	if c == nil || e != api.OK {
		t.Fatalf("New(%d) = %v, %d", tasks, c, e)
	}
	return c
}

// waited is a condition for which these wait, in that order.
func waited(t *testing.T, tasks int, row ...cond.Told) *cond.Cond {
	t.Helper()
	c := made(t, tasks)
	for _, x := range row {
		wantWait(t, c, x.Task, x.Lock, api.OK)
	}
	return c
}

func wantWait(t *testing.T, c *cond.Cond, n, lock int, want api.Errno) {
	t.Helper()
	if e := c.Wait(n, lock); e != want {
		t.Errorf("Wait(%d, %d) = %d, want %d", n, lock, e, want)
	}
}

func wantSignal(t *testing.T, c *cond.Cond, want ...cond.Told) {
	t.Helper()
	if told := c.Signal(); !slices.Equal(told, want) {
		t.Errorf("Signal() = %v, want %v", told, want)
	}
}

func wantBroadcast(t *testing.T, c *cond.Cond, want ...cond.Told) {
	t.Helper()
	if told := c.Broadcast(); !slices.Equal(told, want) {
		t.Errorf("Broadcast() = %v, want %v", told, want)
	}
}

func wantLeave(t *testing.T, c *cond.Cond, n int, want cond.Told) {
	t.Helper()
	if x, is := c.Leave(n); x != want || !is {
		t.Errorf("Leave(%d) = %v, %t, want %v, true", n, x, is, want)
	}
}

func wantNoLeave(t *testing.T, c *cond.Cond, n int) {
	t.Helper()
	if x, is := c.Leave(n); x != (cond.Told{}) || is {
		t.Errorf("Leave(%d) = %v, %t, want %v, false", n, x, is, cond.Told{})
	}
}

// stands holds what a condition tells against those who wait for it, in order.
func stands(t *testing.T, c *cond.Cond, row ...cond.Told) {
	t.Helper()
	if l := c.Waiting(); !slices.Equal(l, row) {
		t.Errorf("Waiting() = %v, want %v", l, row)
	}
}

// The calls that change a condition.
const (
	wait = iota
	signal
	broadcast
	leave
	calls
)

// call is one of them, of a task, that leaves a number; each only where the call takes it.
type call struct{ what, t, lock int }

// do makes a call of a condition and of its model, and holds what they answer, and how they stand then, against each other.
func do(t *testing.T, c *cond.Cond, m *model, x call) {
	t.Helper()
	switch x.what {
	case wait:
		wantWait(t, c, x.t, x.lock, m.wait(x.t, x.lock))
	case signal:
		wantSignal(t, c, m.signal()...)
	case broadcast:
		wantBroadcast(t, c, m.broadcast()...)
	case leave:
		if told, is := m.leave(x.t); is {
			wantLeave(t, c, x.t, told)
		} else {
			wantNoLeave(t, c, x.t)
		}
	}
	stands(t, c, m.row...)
}

// arrangements are all rows that these tasks can make, or some of them.
func arrangements(tasks int) [][]cond.Told {
	all := [][]int{nil}
	for from := 0; from < len(all); from++ {
		for n := range tasks {
			if row := all[from]; !slices.Contains(row, n) {
				all = append(all, append(slices.Clone(row), n))
			}
		}
	}
	var rows [][]cond.Told
	for _, row := range all {
		rows = append(rows, left(row...))
	}
	return rows
}

// The document's example.
func TestExample(t *testing.T) {
	c := made(t, 4)
	wantWait(t, c, 3, 0, api.OK)
	wantWait(t, c, 1, 2, api.OK)
	wantLeave(t, c, 3, cond.Told{Task: 3, Lock: 0})
	wantSignal(t, c, cond.Told{Task: 1, Lock: 2})
	stands(t, c)
}

// P10.1: of each size that there may be, just those tasks are there.
func TestNew(t *testing.T) {
	for _, tasks := range []int{1, 2, 3, 16, 255, 256, 257, 999, 1000} {
		c := made(t, tasks)
		stands(t, c)
		wantSignal(t, c)
		wantBroadcast(t, c)
		for _, n := range outside(tasks) {
			wantWait(t, c, n, 1, api.ErrName)
			wantNoLeave(t, c, n)
		}
		stands(t, c)
		for n := range tasks {
			wantNoLeave(t, c, n)
			wantWait(t, c, n, n+5, api.OK)
			stands(t, c, cond.Told{Task: n, Lock: n + 5})
			wantSignal(t, c, cond.Told{Task: n, Lock: n + 5})
			stands(t, c)
		}
	}
}

// P10.1
func TestNewOfWrongSizes(t *testing.T) {
	for _, tasks := range []int{
		0, -1, -2, -1000, 1001, 1002, 2000, 1 << 16, 1<<16 + 1, 1 << 32, 1<<32 + 1, -1 << 32, math.MinInt, math.MinInt + 1, math.MaxInt,
	} {
		if c, e := cond.New(tasks); c != nil || e != api.ErrArg {
			t.Errorf("New(%d) = %v, %d, want nil, %d", tasks, c, e, api.ErrArg)
		}
	}
}

// P10.1: who comes waits behind all, with the number that it left.
func TestWait(t *testing.T) {
	c, row := made(t, 6), []cond.Told{{Task: 3, Lock: 0}, {Task: 1, Lock: 2}, {Task: 5, Lock: -7}, {Task: 0, Lock: 2}, {Task: 4, Lock: 4}}
	for i, x := range row {
		wantWait(t, c, x.Task, x.Lock, api.OK)
		stands(t, c, row[:i+1]...)
	}
}

// P10.1, P10.2: whatever number is left is told, by whichever call.
func TestLockNumbers(t *testing.T) {
	for _, lock := range lockNumbers() {
		for _, n := range []int{0, 2, 999} {
			c, x := made(t, 1000), cond.Told{Task: n, Lock: lock}
			wantWait(t, c, n, lock, api.OK)
			stands(t, c, x)
			wantSignal(t, c, x)
			wantWait(t, c, n, lock, api.OK)
			wantBroadcast(t, c, x)
			wantWait(t, c, n, lock, api.OK)
			wantLeave(t, c, n, x)
			stands(t, c)
		}
	}
}

// P10.1, P10.2: several may leave numbers of all kinds, each its own, or all the same one.
func TestSeveralLockNumbers(t *testing.T) {
	locks := lockNumbers()
	own := make([]cond.Told, len(locks))
	for i, lock := range locks {
		own[i] = cond.Told{Task: len(locks) - 1 - i, Lock: lock}
	}
	rows := [][]cond.Told{own}
	for _, lock := range locks {
		rows = append(rows, []cond.Told{{Task: 3, Lock: lock}, {Task: 0, Lock: lock}, {Task: 4, Lock: lock}, {Task: 1, Lock: lock}})
	}
	for _, row := range rows {
		stands(t, waited(t, len(locks), row...), row...)
		wantBroadcast(t, waited(t, len(locks), row...), row...)
		c, d := waited(t, len(locks), row...), waited(t, len(locks), row...)
		for i, x := range row {
			wantSignal(t, c, x)
			stands(t, c, row[i+1:]...)
			wantLeave(t, d, x.Task, x)
			stands(t, d, row[i+1:]...)
		}
	}
}

// P10.1: who waits already may not wait once more, wherever it stands, be it with the same number or with another one;
// nothing is changed, its number neither.
func TestWaitsAlready(t *testing.T) {
	row := []cond.Told{{Task: 4, Lock: 2}, {Task: 0, Lock: 0}, {Task: 1, Lock: -3}, {Task: 5, Lock: 2}}
	c := waited(t, 7, row...)
	for _, x := range row {
		for _, lock := range append([]int{x.Lock}, lockNumbers()...) {
			wantWait(t, c, x.Task, lock, api.ErrWaits)
			stands(t, c, row...)
		}
	}
	wantWait(t, c, 6, 8, api.OK)
	wantWait(t, c, 6, 9, api.ErrWaits)
	wantLeave(t, c, 0, row[1])
	wantSignal(t, c, row[0])
	wantBroadcast(t, c, row[2], row[3], cond.Told{Task: 6, Lock: 8})
}

// P10.1, P10.2: of no such task that is told, whatever number it would leave, whoever waits; nothing is changed.
func TestNoSuchTask(t *testing.T) {
	for _, row := range arrangements(3) {
		c := waited(t, 3, row...)
		for i, n := range outside(3) {
			wantWait(t, c, n, lockNumbers()[i], api.ErrName)
			stands(t, c, row...)
			wantWait(t, c, n, 64, api.ErrName)
			stands(t, c, row...)
			wantNoLeave(t, c, n)
			stands(t, c, row...)
		}
		wantBroadcast(t, c, row...)
	}
}

// P10.2: those who wait are told in the order in which they came, not in that of their tasks or numbers, and go on waiting.
func TestWaiting(t *testing.T) {
	for _, tasks := range [][]int{
		nil, {0}, {5}, {1, 2}, {2, 1}, {5, 0, 1, 2}, {4, 5, 1, 0, 2}, {3}, {3, 0}, {5, 3, 4, 0, 1, 2}, {0, 1, 2, 3, 4, 5},
	} {
		c := waited(t, 6, left(tasks...)...)
		for range 3 {
			stands(t, c, left(tasks...)...)
		}
		wantBroadcast(t, c, left(tasks...)...)
	}
}

// P10.2: the first one alone is told, and waits no more; none, if nobody waits.
func TestSignal(t *testing.T) {
	for _, row := range arrangements(4) {
		c := waited(t, 4, row...)
		for len(row) > 0 {
			wantSignal(t, c, row[0])
			wantNoLeave(t, c, row[0].Task)
			row = row[1:]
			stands(t, c, row...)
		}
		for range 2 {
			wantSignal(t, c)
			stands(t, c)
		}
	}
}

// P10.2: all are told, in order, and nobody waits any more; none, if nobody waits.
func TestBroadcast(t *testing.T) {
	for _, row := range arrangements(4) {
		c := waited(t, 4, row...)
		wantBroadcast(t, c, row...)
		stands(t, c)
		for n := range 4 {
			wantNoLeave(t, c, n)
		}
		wantBroadcast(t, c)
		wantSignal(t, c)
		stands(t, c)
	}
}

// P10.2: who waits first, last, between others or alone leaves, and the others stay in their order.
func TestLeave(t *testing.T) {
	for _, row := range arrangements(4) {
		for i, x := range row {
			c, others := waited(t, 4, row...), slices.Concat(row[:i], row[i+1:])
			wantLeave(t, c, x.Task, x)
			stands(t, c, others...)
			wantNoLeave(t, c, x.Task)
			stands(t, c, others...)
			wantBroadcast(t, c, others...)
		}
	}
}

// P10.2: who doesn't wait doesn't leave: who never came, who was told, one way or the other, and who left.
func TestLeaveOfNotWaiting(t *testing.T) {
	c := made(t, 6)
	for n := range 6 {
		wantNoLeave(t, c, n)
	}
	stands(t, c)
	c = waited(t, 6, left(4, 0, 5, 2)...)
	wantSignal(t, c, left(4)...)
	wantLeave(t, c, 5, left(5)[0])
	for _, n := range []int{1, 3, 4, 5} {
		wantNoLeave(t, c, n)
		stands(t, c, left(0, 2)...)
	}
	wantBroadcast(t, c, left(0, 2)...)
	for n := range 6 {
		wantNoLeave(t, c, n)
	}
	stands(t, c)
}

// P10.2: all leave, and nobody is told.
func TestAllLeave(t *testing.T) {
	for _, order := range arrangements(4) {
		if len(order) < 4 {
			continue
		}
		c := waited(t, 4, left(3, 1, 0, 2)...)
		for _, x := range order {
			wantLeave(t, c, x.Task, x)
		}
		stands(t, c)
		wantSignal(t, c)
		wantBroadcast(t, c)
		wantWait(t, c, 1, 9, api.OK)
		wantSignal(t, c, cond.Told{Task: 1, Lock: 9})
	}
}

// P10.1, P10.2: who was told, or left, may wait again: behind those who came meanwhile, with the number that it leaves now.
func TestWaitsAgain(t *testing.T) {
	for _, lock := range lockNumbers() {
		again := cond.Told{Task: 2, Lock: lock}

		c := waited(t, 5, left(2, 4)...)
		wantSignal(t, c, left(2)...)
		wantWait(t, c, 0, 1, api.OK)
		wantWait(t, c, 2, lock, api.OK)
		stands(t, c, left(4)[0], cond.Told{Task: 0, Lock: 1}, again)
		wantBroadcast(t, c, left(4)[0], cond.Told{Task: 0, Lock: 1}, again)

		wantWait(t, c, 4, -1, api.OK)
		wantWait(t, c, 2, lock, api.OK)
		stands(t, c, cond.Told{Task: 4, Lock: -1}, again)
		wantLeave(t, c, 2, again)

		wantWait(t, c, 3, 6, api.OK)
		wantWait(t, c, 2, 11, api.OK)
		stands(t, c, cond.Told{Task: 4, Lock: -1}, cond.Told{Task: 3, Lock: 6}, cond.Told{Task: 2, Lock: 11})
		wantLeave(t, c, 4, cond.Told{Task: 4, Lock: -1})
		wantSignal(t, c, cond.Told{Task: 3, Lock: 6})
		wantSignal(t, c, cond.Told{Task: 2, Lock: 11})
		stands(t, c)
	}
}

// spoil changes a list that was told, and what stands behind it.
func spoil(list []cond.Told) {
	wrong := cond.Told{Task: 77, Lock: 78}
	for i := range list {
		list[i] = wrong
	}
	_ = append(list, wrong, wrong)
	_ = append(list[:0], wrong)
	all := list[:cap(list)]
	for i := range all {
		all[i] = wrong
	}
}

// P10.2: a list that was told is the asker's own: whoever changes it changes nothing that is kept.
func TestListsAreNew(t *testing.T) {
	for _, row := range arrangements(4) {
		c := waited(t, 4, row...)
		for range 2 {
			spoil(c.Waiting())
			stands(t, c, row...)
		}
		for i := range row {
			spoil(c.Signal())
			stands(t, c, row[i+1:]...)
		}
		for _, x := range row {
			wantWait(t, c, x.Task, x.Lock, api.OK)
		}
		spoil(c.Broadcast())
		stands(t, c)
		for i, x := range row {
			wantWait(t, c, x.Task, x.Lock, api.OK)
			stands(t, c, row[:i+1]...)
		}
		wantBroadcast(t, c, row...)
	}
}

// P10.2: a list that was told stays as it was, whatever is done later, and has nothing in common with another one.
func TestListsStay(t *testing.T) {
	c := waited(t, 6, left(3, 1, 5, 0)...)
	waiting, same := c.Waiting(), c.Waiting()
	spoil(same)
	first := c.Signal()
	wantLeave(t, c, 5, left(5)[0])
	wantWait(t, c, 3, -9, api.OK)
	fewer := c.Waiting()
	second := c.Signal()
	all := c.Broadcast()
	for n := range 6 {
		wantWait(t, c, n, 500+n, api.OK)
	}
	wantSignal(t, c, cond.Told{Task: 0, Lock: 500})
	spoil(c.Broadcast())
	for i, list := range []struct{ is, was []cond.Told }{
		{waiting, left(3, 1, 5, 0)},
		{first, left(3)},
		{fewer, append(left(1, 0), cond.Told{Task: 3, Lock: -9})},
		{second, left(1)},
		{all, append(left(0), cond.Told{Task: 3, Lock: -9})},
	} {
		if !slices.Equal(list.is, list.was) {
			t.Errorf("list %d that was told as %v is %v now", i, list.was, list.is)
		}
	}
}

// P10.1: two conditions have nothing in common: who waits for one may wait for the other one, with another number.
func TestConditionsAreApart(t *testing.T) {
	a, b := waited(t, 3, left(1, 2, 0)...), made(t, 3)
	stands(t, b)
	wantWait(t, b, 2, 4, api.OK)
	wantWait(t, b, 1, 5, api.OK)
	wantSignal(t, a, left(1)...)
	wantLeave(t, a, 2, left(2)[0])
	stands(t, a, left(0)...)
	stands(t, b, cond.Told{Task: 2, Lock: 4}, cond.Told{Task: 1, Lock: 5})
	wantBroadcast(t, b, cond.Told{Task: 2, Lock: 4}, cond.Told{Task: 1, Lock: 5})
	stands(t, a, left(0)...)
}

// P10.1, P10.2 of a condition with one task alone.
func TestOneTask(t *testing.T) {
	c := made(t, 1)
	for _, lock := range lockNumbers() {
		x := cond.Told{Task: 0, Lock: lock}
		wantWait(t, c, 0, lock, api.OK)
		wantWait(t, c, 0, lock, api.ErrWaits)
		wantWait(t, c, 0, 12, api.ErrWaits)
		wantWait(t, c, 1, lock, api.ErrName)
		stands(t, c, x)
		wantSignal(t, c, x)
		wantSignal(t, c)
		wantNoLeave(t, c, 0)
	}
}

// P10.1, P10.2 at the greatest size: all wait, every third one leaves, some are told one by one, and the others at once.
func TestGreatest(t *testing.T) {
	c, m := made(t, 1000), &model{1000, nil}
	for round := range 2 {
		for i := range 1000 {
			do(t, c, m, call{wait, i * 7 % 1000, i - 500*round})
		}
		do(t, c, m, call{wait, 999, 1})
		for n := 0; n < 1000; n += 3 {
			do(t, c, m, call{leave, n, 0})
		}
		for range 200 {
			do(t, c, m, call{signal, 0, 0})
		}
		do(t, c, m, call{broadcast, 0, 0})
	}
	stands(t, c)
}

// everyCall is each call of a condition of so many tasks, be it right or wrong.
func everyCall(tasks int) []call {
	all := []call{{what: signal}, {what: broadcast}}
	for n := -1; n <= tasks; n++ {
		all = append(all, call{wait, n, 0}, call{wait, n, -4}, call{leave, n, 0})
	}
	return all
}

// P10.1, P10.2: whatever is called of small conditions for which whoever waits, and what each one says of every call that
// comes then.
func TestEveryStepOfSmallConditions(t *testing.T) {
	for tasks := 1; tasks <= 4; tasks++ {
		for _, row := range arrangements(tasks) {
			everyTwoCalls(t, &model{tasks, row})
		}
	}
}

func everyTwoCalls(t *testing.T, from *model) {
	t.Helper()
	for _, first := range everyCall(from.tasks) {
		for _, second := range everyCall(from.tasks) {
			c, m := from.make(t), from.clone()
			do(t, c, m, first)
			do(t, c, m, second)
			if t.Failed() {
				t.Fatalf("%v, then %v, then %v", *from, first, second)
			}
		}
	}
}

// P10.1, P10.2: long ways, on which nothing is left of what was.
func TestLongWays(t *testing.T) {
	for seed := range int64(60) {
		r := rand.New(rand.NewSource(seed))
		tasks := 1 + r.Intn(10)
		c, m := made(t, tasks), &model{tasks, nil}
		for range 800 {
			x := call{r.Intn(calls), r.Intn(tasks+2) - 1, r.Intn(9) - 4}
			if x.what == broadcast && r.Intn(4) > 0 {
				x.what = wait // so that rows grow long now and then
			}
			do(t, c, m, x)
			if t.Failed() {
				t.Fatalf("seed %d: %v", seed, x)
			}
		}
	}
}

// signals are what so many signals tell, one behind the other.
func signals(c *cond.Cond, many int) []cond.Told {
	var told []cond.Told
	for range many {
		told = append(told, c.Signal()...)
	}
	return told
}

// P10.3: as many signals as there wait tell the same, in the same order, as one broadcast; nobody waits then.
func TestSignalsTellWhatOneBroadcastTells(t *testing.T) {
	var all []*model
	for tasks := 1; tasks <= 5; tasks++ {
		for _, row := range arrangements(tasks) {
			all = append(all, &model{tasks, row})
		}
	}
	great := &model{1000, nil}
	for i := range 1000 {
		great.wait(i*333%1000, 1000-i)
	}
	for _, from := range append(all, great) {
		a, b := from.make(t), from.make(t)
		many := len(a.Waiting())
		one, each := b.Broadcast(), signals(a, many)
		if !slices.Equal(one, each) || len(one) != many {
			t.Fatalf("%v: %d signals tell %v, a broadcast tells %v", *from, many, each, one)
		}
		stands(t, a)
		stands(t, b)
	}
}

// P10.3: fewer signals than there wait, and a broadcast then, tell the same as one broadcast.
func TestBroadcastTellsWhomSignalsLeft(t *testing.T) {
	for _, row := range arrangements(5) {
		for many := range len(row) + 3 {
			c := waited(t, 5, row...)
			if told := append(signals(c, many), c.Broadcast()...); !slices.Equal(told, row) {
				t.Fatalf("%d signals and a broadcast tell %v, want %v", many, told, row)
			}
		}
	}
}

// P10.3: the same on long ways, on which those who wait came, left and were told in whatever order.
func TestSignalsAndBroadcastOnLongWays(t *testing.T) {
	r := rand.New(rand.NewSource(103))
	for range 200 {
		a, b := made(t, 12), made(t, 12)
		for range 40 {
			n, lock := r.Intn(12), r.Intn(5)
			switch r.Intn(4) {
			case 0:
				a.Leave(n)
				b.Leave(n)
			case 1:
				a.Signal()
				b.Signal()
			default:
				a.Wait(n, lock)
				b.Wait(n, lock)
			}
		}
		waiting := a.Waiting()
		one, each := a.Broadcast(), signals(b, len(waiting))
		if !slices.Equal(one, each) || !slices.Equal(one, waiting) {
			t.Fatalf("%v wait, a broadcast tells %v, signals tell %v", waiting, one, each)
		}
	}
}

// P10.3: whoever leaves, in whatever order, none of them is told, and all others are, in their order.
func TestWhoLeavesIsNeverTold(t *testing.T) {
	orders := [][]int{{4, 0, 3, 1, 2}, {0, 1, 2, 3, 4}, {4, 3, 2, 1, 0}}
	for _, order := range orders {
		for _, leaving := range orders {
			for mask := range 1 << 5 {
				stays := slices.DeleteFunc(slices.Clone(order), func(n int) bool { return mask>>n&1 == 1 })
				a, b := waited(t, 5, left(order...)...), waited(t, 5, left(order...)...)
				for _, n := range leaving {
					if mask>>n&1 == 1 {
						wantLeave(t, a, n, left(n)[0])
						wantLeave(t, b, n, left(n)[0])
					}
				}
				wantBroadcast(t, a, left(stays...)...)
				for _, x := range left(stays...) {
					wantSignal(t, b, x)
				}
				wantSignal(t, b)
			}
		}
	}
}

// P10.3: as those tell who came, left and were told, and not the condition: nobody is told that didn't come, or that left,
// and each that came and didn't leave is told once, with the number that it left then, or waits still.
func TestEachIsToldOnceOrLeaves(t *testing.T) {
	r := rand.New(rand.NewSource(104))
	c, came, told, gone := made(t, 8), map[int]int{}, 0, 0
	over := func(x cond.Told) {
		if lock, is := came[x.Task]; !is || lock != x.Lock {
			t.Fatalf("%v is told, and those who wait are %v", x, came)
		}
		delete(came, x.Task)
	}
	for step := range 5000 {
		switch n := r.Intn(8); r.Intn(12) {
		case 0, 1, 2:
			if x, is := c.Leave(n); is {
				over(x)
				gone++
			}
		case 3, 4, 5:
			for _, x := range c.Signal() {
				over(x)
				told++
			}
		case 6:
			for _, x := range c.Broadcast() {
				over(x)
				told++
			}
			if len(came) > 0 {
				t.Fatalf("a broadcast tells nothing to %v", came)
			}
		default:
			if c.Wait(n, step) == api.OK {
				came[n] = step
			}
		}
		if len(c.Waiting()) != len(came) {
			t.Fatalf("%v wait, and those who came are %v", c.Waiting(), came)
		}
	}
	if told < 100 || gone < 100 {
		t.Errorf("%d were told, %d left", told, gone)
	}
}
