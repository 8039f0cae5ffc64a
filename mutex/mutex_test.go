package mutex_test

import (
	"fmt"
	"math"
	"math/rand"
	"slices"
	"testing"

	"countermand/api"
	"countermand/mutex"
)

const none = -1

// model is a lock as plainly as the document says it: who holds it, and a list of those who wait.
type model struct {
	tasks, holder int
	row           []int
}

func (m *model) clone() *model { return &model{m.tasks, m.holder, slices.Clone(m.row)} }

func (m *model) mayAsk(t int) api.Errno {
	switch {
	case t < 0 || t >= m.tasks:
		return api.ErrName
	case slices.Contains(m.row, t):
		return api.ErrWaits
	}
	return api.OK
}

func (m *model) lock(t int) (bool, api.Errno) {
	e := m.mayAsk(t)
	switch {
	case e != api.OK:
		return false, e
	case m.holder == none:
		m.holder = t
		return true, api.OK
	}
	m.row = append(m.row, t)
	return false, api.OK
}

func (m *model) tryLock(t int) (bool, api.Errno) {
	e := m.mayAsk(t)
	if e != api.OK || m.holder != none {
		return false, e
	}
	m.holder = t
	return true, api.OK
}

func (m *model) unlock(t int) (int, api.Errno) {
	switch {
	case t < 0 || t >= m.tasks:
		return none, api.ErrName
	case m.holder != t:
		return none, api.ErrHeld
	}
	m.holder = none
	if len(m.row) > 0 {
		m.holder, m.row = m.row[0], m.row[1:]
	}
	return m.holder, api.OK
}

func (m *model) leave(t int) bool {
	i := slices.Index(m.row, t)
	if i < 0 {
		return false
	}
	m.row = slices.Concat(m.row[:i], m.row[i+1:])
	return true
}

// make builds a lock that stands as the model does.
func (m *model) make(t *testing.T) *mutex.Mutex {
	t.Helper()
	if m.holder == none {
		return made(t, m.tasks)
	}
	return held(t, m.tasks, m.holder, m.row...)
}

// outside are numbers of which there is no task, where there are so many.
func outside(many int) []int {
	return []int{
		-1, many, -2, many + 1, 999 + many, 1000 + many, 1 << 16, 1<<16 - 1, 1 << 32, 1<<32 + 1, -1 << 16, -1 << 32,
		math.MinInt, math.MinInt + 1, math.MaxInt, math.MaxInt - 1,
	}
}

func made(t *testing.T, tasks int) *mutex.Mutex {
	t.Helper()
	m, e := mutex.New(tasks)
	if m == nil || e != api.OK {
		t.Fatalf("New(%d) = %v, %d", tasks, m, e)
	}
	return m
}

// held is a lock that one holds, and for which these wait.
func held(t *testing.T, tasks, holder int, row ...int) *mutex.Mutex {
	t.Helper()
	m := made(t, tasks)
	wantLock(t, m, holder, true, api.OK)
	for _, n := range row {
		wantLock(t, m, n, false, api.OK)
	}
	return m
}

func wantLock(t *testing.T, m *mutex.Mutex, n int, want bool, wantE api.Errno) {
	t.Helper()
	if is, e := m.Lock(n); is != want || e != wantE {
		t.Errorf("Lock(%d) = %t, %d, want %t, %d", n, is, e, want, wantE)
	}
}

func wantTry(t *testing.T, m *mutex.Mutex, n int, want bool, wantE api.Errno) {
	t.Helper()
	if is, e := m.TryLock(n); is != want || e != wantE {
		t.Errorf("TryLock(%d) = %t, %d, want %t, %d", n, is, e, want, wantE)
	}
}

func wantUnlock(t *testing.T, m *mutex.Mutex, n int, want int, wantE api.Errno) {
	t.Helper()
	if next, e := m.Unlock(n); next != want || e != wantE {
		t.Errorf("Unlock(%d) = %d, %d, want %d, %d", n, next, e, want, wantE)
	}
}

func wantLeave(t *testing.T, m *mutex.Mutex, n int, want bool) {
	t.Helper()
	if is := m.Leave(n); is != want {
		t.Errorf("Leave(%d) = %t, want %t", n, is, want)
	}
}

// stands holds all that a lock tells against who holds it and who waits, in order.
func stands(t *testing.T, m *mutex.Mutex, holder int, row ...int) {
	t.Helper()
	if n := m.Holder(); n != holder {
		t.Errorf("Holder() = %d, want %d", n, holder)
	}
	if l := m.Waiting(); !slices.Equal(l, row) {
		t.Errorf("Waiting() = %v, want %v", l, row)
	}
}

// The calls that change a lock.
const (
	lock = iota
	tryLock
	unlock
	leave
	calls
)

// do makes a call of a lock and of its model, and holds what they answer, and how they stand then, against each other.
func do(t *testing.T, m *mutex.Mutex, mod *model, what, n int) {
	t.Helper()
	switch what {
	case lock:
		is, e := mod.lock(n)
		wantLock(t, m, n, is, e)
	case tryLock:
		is, e := mod.tryLock(n)
		wantTry(t, m, n, is, e)
	case unlock:
		next, e := mod.unlock(n)
		wantUnlock(t, m, n, next, e)
	case leave:
		wantLeave(t, m, n, mod.leave(n))
	}
	stands(t, m, mod.holder, mod.row...)
}

// The document's example.
func TestExample(t *testing.T) {
	m := held(t, 4, 1, 2, 3)
	wantLeave(t, m, 2, true)
	wantUnlock(t, m, 1, 3, api.OK)
	stands(t, m, 3)
}

// P8.1: of each size that there may be, just those tasks are there.
func TestNew(t *testing.T) {
	for _, tasks := range []int{1, 2, 3, 16, 255, 256, 257, 999, 1000} {
		m := made(t, tasks)
		stands(t, m, none)
		for _, n := range outside(tasks) {
			wantLock(t, m, n, false, api.ErrName)
			wantTry(t, m, n, false, api.ErrName)
			wantUnlock(t, m, n, none, api.ErrName)
			wantLeave(t, m, n, false)
		}
		stands(t, m, none)
		for n := range tasks {
			wantTry(t, m, n, true, api.OK)
			stands(t, m, n)
			wantUnlock(t, m, n, none, api.OK)
			stands(t, m, none)
		}
	}
}

// P8.1
func TestNewOfWrongSizes(t *testing.T) {
	for _, tasks := range []int{
		0, -1, -2, -1000, 1001, 1002, 2000, 1 << 16, 1<<16 + 1, 1 << 32, 1<<32 + 1, -1 << 32, math.MinInt, math.MinInt + 1, math.MaxInt,
	} {
		if m, e := mutex.New(tasks); m != nil || e != api.ErrArg {
			t.Errorf("New(%d) = %v, %d, want nil, %d", tasks, m, e, api.ErrArg)
		}
	}
}

// P8.1: who holds it is told in whatever number, the least and the greatest ones too, and nobody as -1.
func TestHolder(t *testing.T) {
	for _, n := range []int{0, 1, 998, 999} {
		m := made(t, 1000)
		stands(t, m, none)
		wantLock(t, m, n, true, api.OK)
		stands(t, m, n)
		wantLock(t, m, 5, false, api.OK)
		stands(t, m, n, 5)
		wantUnlock(t, m, n, 5, api.OK)
		stands(t, m, 5)
		wantUnlock(t, m, 5, none, api.OK)
		stands(t, m, none)
	}
}

// P8.1: those who wait are told in the order in which they came, not in that of their numbers.
func TestWaiting(t *testing.T) {
	for _, row := range [][]int{
		nil, {0}, {5}, {1, 2}, {2, 1}, {5, 0, 1, 2}, {4, 5, 1, 0, 2}, {3}, {3, 0}, {5, 3, 4, 0, 1, 2},
	} {
		stands(t, held(t, 6, 3, row...), 3, row...)
	}
}

// P8.1: a list that was told is the asker's own.
func TestWaitingIsNew(t *testing.T) {
	m := held(t, 6, 1, 3, 2, 4)
	l := m.Waiting()
	for i := range l {
		l[i] = 5
	}
	_ = append(l[:1], 0, 0)
	stands(t, m, 1, 3, 2, 4)
	wantLock(t, m, 5, false, api.OK)
	wantUnlock(t, m, 1, 3, api.OK)
	stands(t, m, 3, 2, 4, 5)

	earlier := m.Waiting()
	wantLeave(t, m, 4, true)
	wantUnlock(t, m, 3, 2, api.OK)
	wantLock(t, m, 0, false, api.OK)
	if !slices.Equal(earlier, []int{2, 4, 5}) {
		t.Errorf("a list that was told earlier is %v now", earlier)
	}
	a, b := m.Waiting(), m.Waiting()
	a[0] = 1
	if !slices.Equal(b, []int{5, 0}) {
		t.Errorf("two lists that were told have something in common: %v", b)
	}
	stands(t, m, 2, 5, 0)
}

// P8.1: two locks have nothing in common.
func TestLocksAreApart(t *testing.T) {
	a, b := held(t, 3, 1, 2, 0), made(t, 3)
	stands(t, b, none)
	wantLock(t, b, 2, true, api.OK)
	wantLock(t, b, 1, false, api.OK)
	wantUnlock(t, a, 1, 2, api.OK)
	wantLeave(t, a, 1, false)
	stands(t, a, 2, 0)
	stands(t, b, 2, 1)
}

// P8.2: one that nobody holds is given; one that is held is waited for.
func TestLock(t *testing.T) {
	m := made(t, 4)
	wantLock(t, m, 3, true, api.OK)
	stands(t, m, 3)
	wantLock(t, m, 0, false, api.OK)
	stands(t, m, 3, 0)
	wantLock(t, m, 2, false, api.OK)
	wantLock(t, m, 1, false, api.OK)
	stands(t, m, 3, 0, 2, 1)
}

// P8.2: TryLock takes one that nobody holds, and lets nobody wait for one that is held.
func TestTryLock(t *testing.T) {
	m := made(t, 4)
	wantTry(t, m, 3, true, api.OK)
	stands(t, m, 3)
	for _, n := range []int{0, 3, 1, 2, 0} {
		wantTry(t, m, n, false, api.OK)
		stands(t, m, 3)
	}
	wantLock(t, m, 2, false, api.OK)
	wantTry(t, m, 0, false, api.OK)
	wantTry(t, m, 3, false, api.OK)
	stands(t, m, 3, 2)
	wantUnlock(t, m, 3, 2, api.OK)
	wantTry(t, m, 3, false, api.OK)
	wantUnlock(t, m, 2, none, api.OK)
	wantTry(t, m, 0, true, api.OK)
	stands(t, m, 0)
}

// P8.2: who waits already may neither ask nor try, wherever it stands; that changes nothing.
func TestWaitsAlready(t *testing.T) {
	row := []int{4, 0, 1, 5}
	m := held(t, 7, 1, row...)
	for _, n := range row {
		wantLock(t, m, n, false, api.ErrWaits)
		stands(t, m, 1, row...)
		wantTry(t, m, n, false, api.ErrWaits)
		stands(t, m, 1, row...)
	}
	wantTry(t, m, 3, false, api.OK)
	wantLock(t, m, 6, false, api.OK)
	stands(t, m, 1, 4, 0, 1, 5, 6)
	wantUnlock(t, m, 1, 4, api.OK)
	wantTry(t, m, 4, false, api.OK)
	wantLock(t, m, 4, false, api.OK)
	stands(t, m, 4, 0, 1, 5, 6, 4)
}

// P8.2: who holds it may wait for it once, and for ever, if it doesn't let it go.
func TestHolderAsks(t *testing.T) {
	m := held(t, 3, 2)
	wantTry(t, m, 2, false, api.OK)
	stands(t, m, 2)
	wantLock(t, m, 2, false, api.OK)
	stands(t, m, 2, 2)
	wantLock(t, m, 2, false, api.ErrWaits)
	wantTry(t, m, 2, false, api.ErrWaits)
	wantLock(t, m, 0, false, api.OK)
	stands(t, m, 2, 2, 0)
	wantUnlock(t, m, 2, 2, api.OK)
	stands(t, m, 2, 0)
	wantLock(t, m, 2, false, api.OK)
	stands(t, m, 2, 0, 2)
	wantUnlock(t, m, 2, 0, api.OK)
	wantUnlock(t, m, 2, none, api.ErrHeld)
	stands(t, m, 0, 2)
	wantUnlock(t, m, 0, 2, api.OK)
	wantUnlock(t, m, 2, none, api.OK)
	stands(t, m, none)
}

// P8.2, P8.3: of no such task that is told, whatever the lock is; nothing is changed.
func TestNoSuchTask(t *testing.T) {
	for _, from := range []*model{{4, none, nil}, {4, 3, nil}, {4, 0, []int{0}}, {4, 0, []int{2, 3, 1, 0}}} {
		m := from.make(t)
		for _, n := range outside(4) {
			wantLock(t, m, n, false, api.ErrName)
			stands(t, m, from.holder, from.row...)
			wantTry(t, m, n, false, api.ErrName)
			stands(t, m, from.holder, from.row...)
			wantUnlock(t, m, n, none, api.ErrName)
			stands(t, m, from.holder, from.row...)
			wantLeave(t, m, n, false)
			stands(t, m, from.holder, from.row...)
		}
	}
}

// P8.3: it is given to the first one who waits, who waits no more.
func TestUnlock(t *testing.T) {
	m := held(t, 5, 1, 4, 0, 3)
	wantUnlock(t, m, 1, 4, api.OK)
	stands(t, m, 4, 0, 3)
	wantLock(t, m, 1, false, api.OK)
	wantUnlock(t, m, 4, 0, api.OK)
	stands(t, m, 0, 3, 1)
	wantUnlock(t, m, 0, 3, api.OK)
	wantUnlock(t, m, 3, 1, api.OK)
	stands(t, m, 1)
	wantUnlock(t, m, 1, none, api.OK)
	stands(t, m, none)
	wantUnlock(t, m, 1, none, api.ErrHeld)
	wantLock(t, m, 2, true, api.OK)
	stands(t, m, 2)
}

// P8.3: who doesn't hold it can't let it go, be it that another one does, or nobody; nothing is changed.
func TestUnlockOfNotHeld(t *testing.T) {
	for _, from := range []*model{
		{4, none, nil}, {4, 0, nil}, {4, 3, nil}, {4, 1, []int{2}}, {4, 1, []int{0, 1, 3, 2}}, {1000, 999, []int{0, 998}}, {1000, 0, []int{999}},
	} {
		m := from.make(t)
		for n := range from.tasks {
			if n == from.holder {
				continue
			}
			wantUnlock(t, m, n, none, api.ErrHeld)
			stands(t, m, from.holder, from.row...)
		}
	}
}

// P8.3: who waits first, last, between others or alone leaves, and the others stay in their order.
func TestLeave(t *testing.T) {
	for _, c := range []struct {
		row  []int
		n    int
		left []int
	}{
		{[]int{3}, 3, nil},
		{[]int{1}, 1, nil},
		{[]int{3, 0}, 3, []int{0}},
		{[]int{3, 0}, 0, []int{3}},
		{[]int{3, 0, 2}, 3, []int{0, 2}},
		{[]int{3, 0, 2}, 0, []int{3, 2}},
		{[]int{3, 0, 2}, 2, []int{3, 0}},
		{[]int{1, 0, 2}, 1, []int{0, 2}},
		{[]int{3, 1, 2}, 1, []int{3, 2}},
		{[]int{3, 0, 1}, 1, []int{3, 0}},
	} {
		m := held(t, 4, 1, c.row...)
		wantLeave(t, m, c.n, true)
		stands(t, m, 1, c.left...)
		wantLeave(t, m, c.n, false)
		stands(t, m, 1, c.left...)
		wantTry(t, m, c.n, false, api.OK)
		stands(t, m, 1, c.left...)
		wantLock(t, m, c.n, false, api.OK)
		stands(t, m, 1, append(c.left, c.n)...)
	}
}

// P8.3: who doesn't wait doesn't leave, nor does it let go what it holds.
func TestLeaveOfNotWaiting(t *testing.T) {
	m := made(t, 4)
	for n := range 4 {
		wantLeave(t, m, n, false)
	}
	stands(t, m, none)
	m = held(t, 4, 1, 3)
	for _, n := range []int{0, 1, 2} {
		wantLeave(t, m, n, false)
		stands(t, m, 1, 3)
	}
	wantUnlock(t, m, 1, 3, api.OK)
	wantLeave(t, m, 3, false)
	wantLeave(t, m, 1, false)
	stands(t, m, 3)
}

// P8.3: all leave, and nobody is given it when it is let go.
func TestAllLeave(t *testing.T) {
	m := held(t, 4, 1, 3, 1, 0, 2)
	for _, n := range []int{0, 2, 3, 1} {
		wantLeave(t, m, n, true)
	}
	stands(t, m, 1)
	wantUnlock(t, m, 1, none, api.OK)
	stands(t, m, none)
	wantTry(t, m, 0, true, api.OK)
}

// P8.1 to P8.3 of a lock with one task alone.
func TestOneTask(t *testing.T) {
	m := made(t, 1)
	wantUnlock(t, m, 0, none, api.ErrHeld)
	wantLock(t, m, 0, true, api.OK)
	wantLock(t, m, 0, false, api.OK)
	wantLock(t, m, 0, false, api.ErrWaits)
	stands(t, m, 0, 0)
	wantUnlock(t, m, 0, 0, api.OK)
	stands(t, m, 0)
	wantUnlock(t, m, 0, none, api.OK)
	stands(t, m, none)
	wantLock(t, m, 1, false, api.ErrName)
}

// P8.1 to P8.3 at the greatest size: all wait, every third one leaves, and the others are given it in their order.
func TestGreatest(t *testing.T) {
	m, mod := made(t, 1000), &model{1000, none, nil}
	do(t, m, mod, tryLock, 500)
	for i := range 1000 {
		do(t, m, mod, lock, i*7%1000)
	}
	for n := 0; n < 1000; n += 3 {
		do(t, m, mod, leave, n)
	}
	for mod.holder != none {
		do(t, m, mod, unlock, mod.holder)
	}
	stands(t, m, none)
}

// arrangements are all rows that these tasks can make, or some of them.
func arrangements(tasks int) [][]int {
	all := [][]int{nil}
	for from := 0; from < len(all); from++ {
		for n := range tasks {
			if row := all[from]; !slices.Contains(row, n) {
				all = append(all, append(slices.Clone(row), n))
			}
		}
	}
	return all
}

// P8.1 to P8.3: whatever is called, be it right or wrong, of small locks that stand in whatever way, and what each one
// says of every call that comes then.
func TestEveryStepOfSmallLocks(t *testing.T) {
	for tasks := 1; tasks <= 4; tasks++ {
		from := []*model{{tasks, none, nil}}
		for holder := range tasks {
			for _, row := range arrangements(tasks) {
				from = append(from, &model{tasks, holder, row})
			}
		}
		for _, f := range from {
			everyTwoCalls(t, f)
		}
	}
}

func everyTwoCalls(t *testing.T, from *model) {
	t.Helper()
	for first := range calls {
		for a := -1; a <= from.tasks; a++ {
			for second := range calls {
				for b := -1; b <= from.tasks; b++ {
					m, mod := from.make(t), from.clone()
					do(t, m, mod, first, a)
					do(t, m, mod, second, b)
					if t.Failed() {
						t.Fatalf("%v, then call %d of %d, then %d of %d", *from, first, a, second, b)
					}
				}
			}
		}
	}
}

// P8.1 to P8.3: long ways, on which nothing is left of what was.
func TestLongWays(t *testing.T) {
	for seed := range int64(60) {
		r := rand.New(rand.NewSource(seed))
		tasks := 1 + r.Intn(10)
		m, mod := made(t, tasks), &model{tasks, none, nil}
		for range 800 {
			what, n := r.Intn(calls), r.Intn(tasks+2)-1
			if what == unlock && r.Intn(2) == 0 {
				n = mod.holder
			}
			do(t, m, mod, what, n)
			if t.Failed() {
				t.Fatalf("seed %d: call %d of %d", seed, what, n)
			}
		}
	}
}

// P8.4: one holds it at most: of all tasks just one can let it go, and it is the one that was given it last.
func TestOneHoldsItAtMost(t *testing.T) {
	r := rand.New(rand.NewSource(84))
	m, holder := made(t, 6), none
	for range 3000 {
		n := r.Intn(6)
		var given bool
		switch r.Intn(4) {
		case 0:
			given, _ = m.Lock(n)
		case 1:
			given, _ = m.TryLock(n)
		case 2:
			m.Leave(n)
		case 3:
			for other := range 6 {
				if other != holder {
					wantUnlock(t, m, other, none, api.ErrHeld)
				}
			}
			if holder != none {
				holder, _ = m.Unlock(holder)
			}
		}
		if given && holder != none {
			t.Fatalf("given to %d while %d holds it", n, holder)
		}
		if given {
			holder = n
		}
		if m.Holder() != holder {
			t.Fatalf("Holder() = %d, want %d", m.Holder(), holder)
		}
	}
}

// P8.4: where nobody holds it nobody waits, and who asks then is given it at once.
func TestNobodyWaitsForNothing(t *testing.T) {
	r := rand.New(rand.NewSource(85))
	m, free := made(t, 4), 0
	for range 3000 {
		n := r.Intn(4)
		switch r.Intn(4) {
		case 0:
			m.Lock(n)
		case 1:
			m.Leave(n)
		default:
			m.Unlock(m.Holder())
		}
		if m.Holder() != none {
			continue
		}
		free++
		if l := m.Waiting(); len(l) != 0 {
			t.Fatalf("nobody holds it, and %v wait", l)
		}
		wantLock(t, m, n, true, api.OK)
	}
	if free < 100 {
		t.Errorf("nobody held it %d times only", free)
	}
}

// P8.4: who comes first, and doesn't leave, is given it first, whoever leaves of the others, and in whatever order.
func TestWhoComesFirstIsGivenItFirst(t *testing.T) {
	orders := [][]int{{4, 0, 3, 1, 2}, {0, 1, 2, 3, 4}, {4, 3, 2, 1, 0}}
	for _, order := range orders {
		for _, leaving := range orders {
			for mask := range 1 << 5 {
				t.Run(fmt.Sprint(order, leaving, mask), func(t *testing.T) {
					m := held(t, 6, 5, order...)
					for _, n := range leaving {
						if mask>>n&1 == 1 {
							wantLeave(t, m, n, true)
						}
					}
					holder := 5
					for _, n := range order {
						if mask>>n&1 == 1 {
							continue
						}
						wantUnlock(t, m, holder, n, api.OK)
						holder = n
					}
					wantUnlock(t, m, holder, none, api.OK)
				})
			}
		}
	}
}

// P8.4: who left and comes back stands behind those who came meanwhile; who only tries takes nobody's place.
func TestWhoComesBackComesLast(t *testing.T) {
	m := held(t, 6, 5, 0, 1)
	wantLeave(t, m, 0, true)
	wantLock(t, m, 2, false, api.OK)
	wantLock(t, m, 0, false, api.OK)
	wantTry(t, m, 4, false, api.OK)
	wantLock(t, m, 5, false, api.OK)
	wantLock(t, m, 4, false, api.OK)
	holder := 5
	for _, n := range []int{1, 2, 0, 5, 4} {
		wantTry(t, m, 3, false, api.OK)
		wantUnlock(t, m, holder, n, api.OK)
		holder = n
	}
	wantUnlock(t, m, holder, none, api.OK)
	wantTry(t, m, 3, true, api.OK)
}

// P8.4: all take it in turn, each asking anew when it lets it go.
func TestInTurn(t *testing.T) {
	m := held(t, 5, 2, 4, 0, 3, 1)
	turn := []int{2, 4, 0, 3, 1}
	for i := range 40 {
		wantLock(t, m, turn[i%5], false, api.OK)
		wantUnlock(t, m, turn[i%5], turn[(i+1)%5], api.OK)
	}
	stands(t, m, 2, 4, 0, 3, 1)
}
