package rw_test

import (
	"math"
	"math/rand"
	"slices"
	"testing"

	"countermand/api"
	"countermand/rw"
)

const none = -1

// model is a lock as plainly as the document says it: who writes, who reads, and the two rows of those who wait.
type model struct {
	tasks, writer          int
	readers, reads, writes []int
}

func free(tasks int) *model { return &model{tasks: tasks, writer: none} }

func (m *model) clone() *model {
	return &model{m.tasks, m.writer, slices.Clone(m.readers), slices.Clone(m.reads), slices.Clone(m.writes)}
}

func (m *model) waits(t int) bool { return slices.Contains(m.reads, t) || slices.Contains(m.writes, t) }

func (m *model) holds(t int) bool { return slices.Contains(m.readers, t) || t != none && t == m.writer }

// give is the document's: what can be given is given.
func (m *model) give() []int {
	switch {
	case m.writer == none && len(m.readers) == 0 && len(m.writes) > 0:
		m.writer, m.writes = m.writes[0], m.writes[1:]
		return []int{m.writer}
	case m.writer == none && len(m.writes) == 0:
		given := m.reads
		m.readers, m.reads = slices.Concat(m.readers, given), nil
		return given
	}
	return nil
}

func (m *model) ask(t int, row *[]int) (bool, api.Errno) {
	switch {
	case t < 0 || t >= m.tasks:
		return false, api.ErrName
	case m.waits(t):
		return false, api.ErrWaits
	case m.holds(t):
		return false, api.ErrHeld
	}
	*row = append(slices.Clone(*row), t)
	m.give()
	return m.holds(t), api.OK
}

func (m *model) unlock(t int) ([]int, api.Errno) {
	switch {
	case t < 0 || t >= m.tasks:
		return nil, api.ErrName
	case !m.holds(t):
		return nil, api.ErrHeld
	}
	if m.writer == t {
		m.writer = none
	}
	m.readers = without(m.readers, t)
	return m.give(), api.OK
}

func (m *model) leave(t int) ([]int, bool) {
	if !m.waits(t) {
		return nil, false
	}
	m.reads, m.writes = without(m.reads, t), without(m.writes, t)
	return m.give(), true
}

// without is a list without one of its numbers.
func without(list []int, t int) []int {
	return slices.DeleteFunc(slices.Clone(list), func(n int) bool { return n == t })
}

// make builds a lock that stands as the model does.
func (m *model) make(t *testing.T) *rw.RW {
	t.Helper()
	l := made(t, m.tasks)
	if m.writer != none {
		wantLock(t, l, m.writer, true, api.OK)
	}
	for _, n := range m.readers {
		wantRLock(t, l, n, true, api.OK)
	}
	for _, n := range m.writes {
		wantLock(t, l, n, false, api.OK)
	}
	for _, n := range m.reads {
		wantRLock(t, l, n, false, api.OK)
	}
	return l
}

// outside are numbers of which there is no task, where there are so many.
func outside(many int) []int {
	return []int{
		-1, many, -2, many + 1, 999 + many, 1000 + many, 1 << 16, 1<<16 - 1, 1 << 32, 1<<32 + 1, -1 << 16, -1 << 32,
		math.MinInt, math.MinInt + 1, math.MaxInt, math.MaxInt - 1,
	}
}

func made(t *testing.T, tasks int) *rw.RW {
	t.Helper()
	l, e := rw.New(tasks)
	if l == nil || e != api.OK {
		t.Fatalf("New(%d) = %v, %d", tasks, l, e)
	}
	return l
}

// read is a lock that these read, in that order.
func read(t *testing.T, tasks int, readers ...int) *rw.RW {
	t.Helper()
	return (&model{tasks: tasks, writer: none, readers: readers}).make(t)
}

// written is a lock that one writes.
func written(t *testing.T, tasks, writer int) *rw.RW {
	t.Helper()
	return (&model{tasks: tasks, writer: writer}).make(t)
}

func wantRLock(t *testing.T, l *rw.RW, n int, want bool, wantE api.Errno) {
	t.Helper()
	if is, e := l.RLock(n); is != want || e != wantE {
		t.Errorf("RLock(%d) = %t, %d, want %t, %d", n, is, e, want, wantE)
	}
}

func wantLock(t *testing.T, l *rw.RW, n int, want bool, wantE api.Errno) {
	t.Helper()
	if is, e := l.Lock(n); is != want || e != wantE {
		t.Errorf("Lock(%d) = %t, %d, want %t, %d", n, is, e, want, wantE)
	}
}

func wantUnlock(t *testing.T, l *rw.RW, n int, wantE api.Errno, want ...int) {
	t.Helper()
	if given, e := l.Unlock(n); !slices.Equal(given, want) || e != wantE {
		t.Errorf("Unlock(%d) = %v, %d, want %v, %d", n, given, e, want, wantE)
	}
}

func wantLeave(t *testing.T, l *rw.RW, n int, wantIs bool, want ...int) {
	t.Helper()
	if given, is := l.Leave(n); !slices.Equal(given, want) || is != wantIs {
		t.Errorf("Leave(%d) = %v, %t, want %v, %t", n, given, is, want, wantIs)
	}
}

// stands holds all that a lock tells against its writer, its readers, and those who wait to read and to write.
func stands(t *testing.T, l *rw.RW, writer int, readers, reads, writes []int) {
	t.Helper()
	if n := l.Writer(); n != writer {
		t.Errorf("Writer() = %d, want %d", n, writer)
	}
	if list := l.Readers(); !slices.Equal(list, readers) {
		t.Errorf("Readers() = %v, want %v", list, readers)
	}
	if r, w := l.Waiting(); !slices.Equal(r, reads) || !slices.Equal(w, writes) {
		t.Errorf("Waiting() = %v, %v, want %v, %v", r, w, reads, writes)
	}
}

// same holds all that a lock tells against a model.
func same(t *testing.T, l *rw.RW, m *model) {
	t.Helper()
	stands(t, l, m.writer, m.readers, m.reads, m.writes)
}

// The calls that change a lock.
const (
	rlock = iota
	lock
	unlock
	leave
	calls
)

// do makes a call of a lock and of its model, and holds what they answer, and how they stand then, against each other.
func do(t *testing.T, l *rw.RW, m *model, what, n int) {
	t.Helper()
	switch what {
	case rlock:
		is, e := m.ask(n, &m.reads)
		wantRLock(t, l, n, is, e)
	case lock:
		is, e := m.ask(n, &m.writes)
		wantLock(t, l, n, is, e)
	case unlock:
		given, e := m.unlock(n)
		wantUnlock(t, l, n, e, given...)
	case leave:
		given, is := m.leave(n)
		wantLeave(t, l, n, is, given...)
	}
	same(t, l, m)
}

// some are locks of four tasks of each kind: nobody, one or several hold it, and nobody, one or many wait.
func some() []*model {
	return []*model{
		free(4),
		{4, none, []int{2}, nil, nil},
		{4, none, []int{3, 0, 2}, nil, nil},
		{4, none, []int{3, 0, 1, 2}, nil, nil},
		{4, none, []int{2}, nil, []int{0}},
		{4, none, []int{3, 1}, nil, []int{2, 0}},
		{4, none, []int{1}, []int{3}, []int{0}},
		{4, none, []int{1}, []int{3, 0}, []int{2}},
		{4, none, []int{0}, []int{3}, []int{2, 1}},
		{4, 1, nil, nil, nil},
		{4, 0, nil, nil, []int{3, 1, 2}},
		{4, 3, nil, []int{2}, nil},
		{4, 2, nil, []int{1, 3, 0}, nil},
		{4, 3, nil, []int{0}, []int{2, 1}},
		{4, 3, nil, []int{2, 0}, []int{1}},
	}
}

// The document's example.
func TestExample(t *testing.T) {
	l := made(t, 4)
	wantRLock(t, l, 1, true, api.OK)
	wantLock(t, l, 2, false, api.OK)
	wantRLock(t, l, 3, false, api.OK)
	wantUnlock(t, l, 1, api.OK, 2)
	stands(t, l, 2, nil, []int{3}, nil)
}

// P9.1: of each size that there may be, just those tasks are there.
func TestNew(t *testing.T) {
	for _, tasks := range []int{1, 2, 3, 16, 255, 256, 257, 999, 1000} {
		l := made(t, tasks)
		same(t, l, free(tasks))
		for _, n := range outside(tasks) {
			wantRLock(t, l, n, false, api.ErrName)
			wantLock(t, l, n, false, api.ErrName)
			wantUnlock(t, l, n, api.ErrName)
			wantLeave(t, l, n, false)
		}
		same(t, l, free(tasks))
		for n := range tasks {
			wantLock(t, l, n, true, api.OK)
			stands(t, l, n, nil, nil, nil)
			wantUnlock(t, l, n, api.OK)
			wantRLock(t, l, n, true, api.OK)
			stands(t, l, none, []int{n}, nil, nil)
			wantUnlock(t, l, n, api.OK)
			same(t, l, free(tasks))
		}
	}
}

// P9.1
func TestNewOfWrongSizes(t *testing.T) {
	for _, tasks := range []int{
		0, -1, -2, -1000, 1001, 1002, 2000, 1 << 16, 1<<16 + 1, 1 << 32, 1<<32 + 1, -1 << 32, math.MinInt, math.MinInt + 1, math.MaxInt,
	} {
		if l, e := rw.New(tasks); l != nil || e != api.ErrArg {
			t.Errorf("New(%d) = %v, %d, want nil, %d", tasks, l, e, api.ErrArg)
		}
	}
}

// P9.1: who holds it is told in whatever number, the least and the greatest ones too, and no writer as -1.
func TestWriter(t *testing.T) {
	for _, n := range []int{0, 1, 998, 999} {
		l := made(t, 1000)
		wantLock(t, l, n, true, api.OK)
		wantRLock(t, l, 5, false, api.OK)
		stands(t, l, n, nil, []int{5}, nil)
		wantUnlock(t, l, n, api.OK, 5)
		stands(t, l, none, []int{5}, nil, nil)
		wantRLock(t, l, n, true, api.OK)
		stands(t, l, none, []int{5, n}, nil, nil)
	}
}

// P9.1: readers are told in the order in which they were given it, not in that of their numbers.
func TestReaders(t *testing.T) {
	for _, readers := range [][]int{
		nil, {0}, {5}, {1, 2}, {2, 1}, {5, 0, 1, 2}, {4, 5, 1, 0, 2}, {3, 0}, {5, 3, 4, 0, 1, 2},
	} {
		stands(t, read(t, 6, readers...), none, readers, nil, nil)
	}
	l := read(t, 6, 4, 1, 3)
	wantUnlock(t, l, 4, api.OK)
	wantRLock(t, l, 0, true, api.OK)
	wantRLock(t, l, 4, true, api.OK)
	stands(t, l, none, []int{1, 3, 0, 4}, nil, nil)
}

// P9.1: those who wait to read, and those who wait to write, are told apart, each in the order in which they came.
func TestWaiting(t *testing.T) {
	for _, c := range []struct{ reads, writes []int }{
		{nil, nil}, {[]int{0}, nil}, {nil, []int{5}}, {[]int{5}, []int{0}}, {[]int{2, 1}, []int{4, 5, 0}},
		{[]int{5, 4, 1, 0, 2}, nil}, {nil, []int{4, 5, 1, 0, 2}}, {[]int{0, 5, 1}, []int{4, 2}},
	} {
		same(t, (&model{6, 3, nil, c.reads, c.writes}).make(t), &model{6, 3, nil, c.reads, c.writes})
	}
	l := written(t, 6, 3)
	wantRLock(t, l, 5, false, api.OK)
	wantLock(t, l, 4, false, api.OK)
	wantRLock(t, l, 0, false, api.OK)
	wantLock(t, l, 1, false, api.OK)
	wantRLock(t, l, 2, false, api.OK)
	stands(t, l, 3, nil, []int{5, 0, 2}, []int{4, 1})
}

// spoil changes a list that was told, and what stands behind it.
func spoil(list []int) {
	for i := range list {
		list[i] = 7
	}
	_ = append(list, 7, 7)
	_ = append(list[:0], 7)
}

// P9.1, P9.3: a list that was told is the asker's own.
func TestListsAreNew(t *testing.T) {
	for _, from := range some() {
		l := from.make(t)
		for range 2 {
			r, w := l.Waiting()
			spoil(r)
			spoil(w)
			spoil(l.Readers())
			same(t, l, from)
		}
	}
	l := (&model{6, 1, nil, []int{3, 2, 4}, []int{5}}).make(t)
	given, _ := l.Unlock(1)
	spoil(given)
	stands(t, l, 5, nil, []int{3, 2, 4}, nil)
	given, _ = l.Unlock(5)
	spoil(given)
	stands(t, l, none, []int{3, 2, 4}, nil, nil)
	wantLock(t, l, 0, false, api.OK)
	wantRLock(t, l, 1, false, api.OK)
	given, _ = l.Leave(0)
	spoil(given)
	stands(t, l, none, []int{3, 2, 4, 1}, nil, nil)
	wantUnlock(t, l, 2, api.OK)
	stands(t, l, none, []int{3, 4, 1}, nil, nil)
}

// P9.1, P9.3: a list that was told stays as it was, whatever is done later.
func TestListsStay(t *testing.T) {
	l := (&model{6, 1, nil, []int{3, 2}, []int{5, 4}}).make(t)
	reads, writes := l.Waiting()
	wantLeave(t, l, 5, true)
	wantLeave(t, l, 4, true)
	given, _ := l.Unlock(1)
	readers := l.Readers()
	wantUnlock(t, l, 3, api.OK)
	wantRLock(t, l, 0, true, api.OK)
	wantUnlock(t, l, 2, api.OK)
	wantLock(t, l, 2, false, api.OK)
	wantUnlock(t, l, 0, api.OK, 2)
	for _, list := range []struct{ is, was []int }{
		{reads, []int{3, 2}}, {writes, []int{5, 4}}, {given, []int{3, 2}}, {readers, []int{3, 2}},
	} {
		if !slices.Equal(list.is, list.was) {
			t.Errorf("a list that was told as %v is %v now", list.was, list.is)
		}
	}
}

// P9.1: two locks have nothing in common.
func TestLocksAreApart(t *testing.T) {
	a, b := (&model{3, 1, nil, []int{0}, []int{2}}).make(t), made(t, 3)
	same(t, b, free(3))
	wantRLock(t, b, 2, true, api.OK)
	wantLock(t, b, 1, false, api.OK)
	wantRLock(t, b, 0, false, api.OK)
	wantUnlock(t, a, 1, api.OK, 2)
	wantLeave(t, a, 1, false)
	stands(t, a, 2, nil, []int{0}, nil)
	stands(t, b, none, []int{2}, []int{0}, []int{1})
}

// P9.2: who asks to read is given it, if nobody writes or waits to write.
func TestRLock(t *testing.T) {
	l := made(t, 6)
	for i, n := range []int{3, 0, 5} {
		wantRLock(t, l, n, true, api.OK)
		stands(t, l, none, []int{3, 0, 5}[:i+1], nil, nil)
	}
	wantLock(t, l, 4, false, api.OK)
	wantRLock(t, l, 2, false, api.OK)
	wantRLock(t, l, 1, false, api.OK)
	stands(t, l, none, []int{3, 0, 5}, []int{2, 1}, []int{4})

	l = written(t, 6, 4)
	wantRLock(t, l, 2, false, api.OK)
	wantRLock(t, l, 0, false, api.OK)
	stands(t, l, 4, nil, []int{2, 0}, nil)
}

// P9.2: who asks to write is given it, if nobody holds it.
func TestLock(t *testing.T) {
	l := made(t, 6)
	wantLock(t, l, 3, true, api.OK)
	stands(t, l, 3, nil, nil, nil)
	wantLock(t, l, 5, false, api.OK)
	wantLock(t, l, 0, false, api.OK)
	stands(t, l, 3, nil, nil, []int{5, 0})

	l = read(t, 6, 2)
	wantLock(t, l, 5, false, api.OK)
	wantLock(t, l, 3, false, api.OK)
	stands(t, l, none, []int{2}, nil, []int{5, 3})
}

// P9.2: who waits already, to read or to write, may not ask once more, for the same or the other; that changes nothing.
func TestWaitsAlready(t *testing.T) {
	for _, from := range some() {
		l := from.make(t)
		for _, n := range slices.Concat(from.reads, from.writes) {
			wantRLock(t, l, n, false, api.ErrWaits)
			same(t, l, from)
			wantLock(t, l, n, false, api.ErrWaits)
			same(t, l, from)
		}
	}
}

// P9.2: who reads or writes may neither ask to read nor to write, whoever waits; that changes nothing.
func TestHoldsAlready(t *testing.T) {
	for _, from := range some() {
		l := from.make(t)
		for n := range 4 {
			if !from.holds(n) {
				continue
			}
			wantRLock(t, l, n, false, api.ErrHeld)
			same(t, l, from)
			wantLock(t, l, n, false, api.ErrHeld)
			same(t, l, from)
		}
	}
}

// P9.2, P9.3: of no such task that is told, whatever the lock is; nothing is changed.
func TestNoSuchTask(t *testing.T) {
	for _, from := range some() {
		l := from.make(t)
		for _, n := range outside(4) {
			wantRLock(t, l, n, false, api.ErrName)
			same(t, l, from)
			wantLock(t, l, n, false, api.ErrName)
			same(t, l, from)
			wantUnlock(t, l, n, api.ErrName)
			same(t, l, from)
			wantLeave(t, l, n, false)
			same(t, l, from)
		}
	}
}

// P9.3: who lets it go gives it to the first one who waits to write, and else to all who wait to read.
func TestUnlockOfWriter(t *testing.T) {
	l := (&model{6, 1, nil, []int{5, 2}, []int{4, 0}}).make(t)
	wantUnlock(t, l, 1, api.OK, 4)
	stands(t, l, 4, nil, []int{5, 2}, []int{0})
	wantRLock(t, l, 1, false, api.OK)
	wantUnlock(t, l, 4, api.OK, 0)
	stands(t, l, 0, nil, []int{5, 2, 1}, nil)
	wantUnlock(t, l, 0, api.OK, 5, 2, 1)
	stands(t, l, none, []int{5, 2, 1}, nil, nil)

	l = written(t, 6, 3)
	wantUnlock(t, l, 3, api.OK)
	same(t, l, free(6))
	wantUnlock(t, l, 3, api.ErrHeld)
	wantRLock(t, l, 3, true, api.OK)
}

// P9.3: of several readers the first, the last, or another one lets it go; the others stay in their order, and nobody
// is given it, as long as there is one.
func TestUnlockOfReader(t *testing.T) {
	for _, order := range [][]int{{3, 0, 2}, {3, 2, 0}, {0, 3, 2}, {0, 2, 3}, {2, 3, 0}, {2, 0, 3}} {
		l, left := read(t, 6, 3, 0, 2), []int{3, 0, 2}
		wantLock(t, l, 4, false, api.OK)
		wantLock(t, l, 1, false, api.OK)
		wantRLock(t, l, 5, false, api.OK)
		for _, n := range order[:2] {
			wantUnlock(t, l, n, api.OK)
			left = without(left, n)
			stands(t, l, none, left, []int{5}, []int{4, 1})
			wantUnlock(t, l, n, api.ErrHeld)
			stands(t, l, none, left, []int{5}, []int{4, 1})
		}
		wantUnlock(t, l, order[2], api.OK, 4)
		stands(t, l, 4, nil, []int{5}, []int{1})
	}
	l := read(t, 6, 3, 0)
	wantUnlock(t, l, 0, api.OK)
	wantUnlock(t, l, 3, api.OK)
	same(t, l, free(6))
	wantLock(t, l, 0, true, api.OK)
}

// P9.3: who doesn't hold it can't let it go, be it that another one does, or nobody, or that it waits; nothing is changed.
func TestUnlockOfNotHeld(t *testing.T) {
	big := []*model{
		{1000, 999, nil, []int{0}, []int{998}}, {1000, none, []int{999, 1}, []int{998}, []int{0}}, {1000, 0, nil, nil, []int{999}},
	}
	for _, from := range slices.Concat(some(), big) {
		l := from.make(t)
		for n := range from.tasks {
			if from.holds(n) {
				continue
			}
			wantUnlock(t, l, n, api.ErrHeld)
			same(t, l, from)
		}
	}
}

// P9.3: who waits to write, or to read, first, last, between others or alone leaves, and the others stay in their order.
func TestLeave(t *testing.T) {
	for _, row := range [][]int{{3}, {3, 0}, {0, 3}, {3, 0, 2}, {2, 4, 3, 0}} {
		for _, n := range row {
			left := without(row, n)
			l := (&model{6, 1, nil, row, []int{5}}).make(t)
			wantLeave(t, l, n, true)
			stands(t, l, 1, nil, left, []int{5})
			wantLeave(t, l, n, false)
			stands(t, l, 1, nil, left, []int{5})
			wantRLock(t, l, n, false, api.OK)
			stands(t, l, 1, nil, append(slices.Clone(left), n), []int{5})

			l = (&model{6, 1, nil, []int{5}, row}).make(t)
			wantLeave(t, l, n, true)
			stands(t, l, 1, nil, []int{5}, left)
			wantLeave(t, l, n, false)
			stands(t, l, 1, nil, []int{5}, left)
			wantRLock(t, l, n, false, api.OK)
			stands(t, l, 1, nil, []int{5, n}, left)
		}
	}
}

// P9.3: as long as another one waits to write, nobody is given it when one who waits leaves, be it the first one.
func TestLeaveBesideAnotherWhoWaitsToWrite(t *testing.T) {
	for _, n := range []int{4, 0, 5} {
		l := (&model{6, none, []int{1}, []int{3, 2}, []int{4, 0, 5}}).make(t)
		wantLeave(t, l, n, true)
		left := without([]int{4, 0, 5}, n)
		stands(t, l, none, []int{1}, []int{3, 2}, left)
		wantLeave(t, l, left[1], true)
		stands(t, l, none, []int{1}, []int{3, 2}, left[:1])
		wantLeave(t, l, 3, true)
		stands(t, l, none, []int{1}, []int{2}, left[:1])
		wantUnlock(t, l, 1, api.OK, left[0])
	}
}

// P9.3: when the last one that waits to write leaves, all who wait to read read beside those who do, behind them.
func TestLastWriterLeavesReaders(t *testing.T) {
	l := (&model{7, none, []int{5, 1}, []int{6, 0, 3}, []int{4, 2}}).make(t)
	wantLeave(t, l, 4, true)
	wantLeave(t, l, 2, true, 6, 0, 3)
	stands(t, l, none, []int{5, 1, 6, 0, 3}, nil, nil)
	wantRLock(t, l, 2, true, api.OK)
	stands(t, l, none, []int{5, 1, 6, 0, 3, 2}, nil, nil)

	l = (&model{7, none, []int{5, 1}, nil, []int{4}}).make(t)
	wantLeave(t, l, 4, true)
	stands(t, l, none, []int{5, 1}, nil, nil)
}

// P9.3: when the last one that waits to write leaves while one writes, those who wait to read go on waiting.
func TestLastWriterLeavesWriter(t *testing.T) {
	l := (&model{7, 5, nil, []int{6, 0, 3}, []int{4}}).make(t)
	wantLeave(t, l, 4, true)
	stands(t, l, 5, nil, []int{6, 0, 3}, nil)
	wantRLock(t, l, 4, false, api.OK)
	wantUnlock(t, l, 5, api.OK, 6, 0, 3, 4)
	stands(t, l, none, []int{6, 0, 3, 4}, nil, nil)
}

// P9.3: who doesn't wait doesn't leave, nor does it let go what it holds.
func TestLeaveOfNotWaiting(t *testing.T) {
	for _, from := range some() {
		l := from.make(t)
		for n := range 4 {
			if from.waits(n) {
				continue
			}
			wantLeave(t, l, n, false)
			same(t, l, from)
		}
	}
	l := (&model{4, 1, nil, []int{3}, []int{2}}).make(t)
	wantUnlock(t, l, 1, api.OK, 2)
	wantLeave(t, l, 2, false)
	wantUnlock(t, l, 2, api.OK, 3)
	wantLeave(t, l, 3, false)
	stands(t, l, none, []int{3}, nil, nil)
}

// P9.3: all leave, and nobody is given it when it is let go.
func TestAllLeave(t *testing.T) {
	for _, order := range [][]int{{3, 0, 2, 4}, {4, 2, 0, 3}, {0, 4, 3, 2}} {
		l := (&model{5, 1, nil, []int{3, 0}, []int{2, 4}}).make(t)
		for _, n := range order {
			wantLeave(t, l, n, true)
		}
		stands(t, l, 1, nil, nil, nil)
		wantUnlock(t, l, 1, api.OK)
		same(t, l, free(5))
	}
}

// P9.1 to P9.3 of a lock with one task alone.
func TestOneTask(t *testing.T) {
	l := made(t, 1)
	for range 2 {
		wantUnlock(t, l, 0, api.ErrHeld)
		wantRLock(t, l, 0, true, api.OK)
		wantRLock(t, l, 0, false, api.ErrHeld)
		wantLock(t, l, 0, false, api.ErrHeld)
		wantLeave(t, l, 0, false)
		stands(t, l, none, []int{0}, nil, nil)
		wantUnlock(t, l, 0, api.OK)
		wantLock(t, l, 0, true, api.OK)
		wantRLock(t, l, 0, false, api.ErrHeld)
		wantLock(t, l, 0, false, api.ErrHeld)
		stands(t, l, 0, nil, nil, nil)
		wantUnlock(t, l, 0, api.OK)
	}
	same(t, l, free(1))
	wantRLock(t, l, 1, false, api.ErrName)
}

// P9.1 to P9.3 at the greatest size: all wait, every third one leaves, and the others are given it in their order.
func TestGreatest(t *testing.T) {
	l, m := made(t, 1000), free(1000)
	for i := range 1000 {
		what := rlock
		if i%10 == 0 {
			what = lock
		}
		do(t, l, m, what, i*7%1000)
	}
	for n := 2; n < 1000; n += 3 {
		do(t, l, m, leave, n)
	}
	for m.writer != none {
		do(t, l, m, unlock, m.writer)
	}
	if len(m.readers) < 500 {
		t.Errorf("%d readers only", len(m.readers))
	}
	do(t, l, m, lock, 0)
	for _, n := range slices.Clone(m.readers) {
		do(t, l, m, unlock, n)
	}
	stands(t, l, 0, nil, nil, nil)
}

// P9.1, P9.2: as many as there may be read at once.
func TestAllRead(t *testing.T) {
	l := made(t, 1000)
	var readers []int
	for i := range 1000 {
		wantRLock(t, l, i*7%1000, true, api.OK)
		readers = append(readers, i*7%1000)
	}
	stands(t, l, none, readers, nil, nil)
}

// everyLock is every lock of so many tasks that can be reached: each task in one of its lists, or in none.
func everyLock(tasks int) []*model {
	all := []*model{free(tasks)}
	for writer := range tasks {
		all = append(all, &model{tasks: tasks, writer: writer})
	}
	for from := 0; from < len(all); from++ {
		for n := range tasks {
			m := all[from]
			if m.holds(n) || m.waits(n) {
				continue
			}
			isHeld := m.writer != none || len(m.readers) > 0
			if m.writer == none && len(m.reads) == 0 && len(m.writes) == 0 {
				all = append(all, with(m, func(c *model) { c.readers = append(c.readers, n) }))
			}
			if isHeld && len(m.reads) == 0 {
				all = append(all, with(m, func(c *model) { c.writes = append(c.writes, n) }))
			}
			if m.writer != none || len(m.writes) > 0 {
				all = append(all, with(m, func(c *model) { c.reads = append(c.reads, n) }))
			}
		}
	}
	return all
}

func with(m *model, change func(*model)) *model {
	c := m.clone()
	change(c)
	return c
}

// P9.1 to P9.3: whatever is called, be it right or wrong, of small locks that stand in whatever way, and what each one
// says of every call that comes then.
func TestEveryStepOfSmallLocks(t *testing.T) {
	for tasks := 1; tasks <= 3; tasks++ {
		for _, from := range everyLock(tasks) {
			everyTwoCalls(t, from)
		}
	}
}

func everyTwoCalls(t *testing.T, from *model) {
	t.Helper()
	for first := range calls {
		for a := -1; a <= from.tasks; a++ {
			for second := range calls {
				for b := -1; b <= from.tasks; b++ {
					l, m := from.make(t), from.clone()
					do(t, l, m, first, a)
					do(t, l, m, second, b)
					if t.Failed() {
						t.Fatalf("%v, then call %d of %d, then %d of %d", *from, first, a, second, b)
					}
				}
			}
		}
	}
}

// P9.1 to P9.3: each call of every lock with four and five tasks.
func TestEveryCall(t *testing.T) {
	for _, from := range slices.Concat(everyLock(4), everyLock(5)) {
		for what := range calls {
			for n := range from.tasks {
				l, m := from.make(t), from.clone()
				do(t, l, m, what, n)
				if t.Failed() {
					t.Fatalf("%v, then call %d of %d", *from, what, n)
				}
			}
		}
	}
}

// P9.1 to P9.3: long ways, on which nothing is left of what was.
func TestLongWays(t *testing.T) {
	for seed := range int64(60) {
		r := rand.New(rand.NewSource(seed))
		tasks := 1 + r.Intn(10)
		l, m := made(t, tasks), free(tasks)
		for range 800 {
			what, n := r.Intn(calls), r.Intn(tasks+2)-1
			do(t, l, m, what, n)
			if t.Failed() {
				t.Fatalf("seed %d: call %d of %d", seed, what, n)
			}
		}
	}
}

// holders are those who hold a lock, as told by those to whom it was given and who let it go, and not by the lock.
type holders struct {
	write bool // whether each of them was given it to write
	who   []int
}

// begin takes in those to whom a lock was given, who asked to write, or not, as asked tells.
func (h *holders) begin(t *testing.T, asked map[int]bool, given ...int) {
	t.Helper()
	for _, n := range given {
		if len(h.who) > 0 && (h.write || asked[n]) {
			t.Fatalf("given to %d (to write: %t) beside %v (to write: %t)", n, asked[n], h.who, h.write)
		}
		h.write, h.who = asked[n], append(h.who, n)
	}
}

// P9.4: nobody holds it beside a writer, as those tell to whom it was given.
func TestNobodyHoldsBesideWriter(t *testing.T) {
	r := rand.New(rand.NewSource(94))
	l, h, asked, writes := made(t, 6), holders{}, map[int]bool{}, 0
	for range 4000 {
		n := r.Intn(6)
		switch r.Intn(4) {
		case 0:
			is, e := l.RLock(n)
			if e == api.OK {
				asked[n] = false
			}
			if is {
				h.begin(t, asked, n)
			}
		case 1:
			is, e := l.Lock(n)
			if e == api.OK {
				asked[n] = true
			}
			if is {
				h.begin(t, asked, n)
			}
		case 2:
			given, _ := l.Leave(n)
			h.begin(t, asked, given...)
		case 3:
			given, e := l.Unlock(n)
			if is := slices.Contains(h.who, n); is != (e == api.OK) {
				t.Fatalf("%v hold it, and Unlock(%d) answers %d", h.who, n, e)
			}
			h.who = without(h.who, n)
			h.begin(t, asked, given...)
		}
		if len(h.who) > 0 && h.write {
			writes++
			stands(t, l, h.who[0], nil, first(l.Waiting()), second(l.Waiting()))
		} else {
			stands(t, l, none, h.who, first(l.Waiting()), second(l.Waiting()))
		}
	}
	if writes < 100 || writes > 3900 {
		t.Errorf("one wrote in %d of 4000 steps", writes)
	}
}

func first(list, _ []int) []int { return list }

func second(_, list []int) []int { return list }

// P9.4: nobody begins to read while one waits to write, whoever reads, comes or leaves.
func TestNobodyBeginsToReadWhileOneWaitsToWrite(t *testing.T) {
	r := rand.New(rand.NewSource(95))
	for range 300 {
		l := read(t, 12, 0, 1, 2)
		wantLock(t, l, 11, false, api.OK)
		for len(l.Readers()) > 0 {
			n := r.Intn(11)
			before := l.Readers()
			switch r.Intn(3) {
			case 0:
				if is, _ := l.RLock(n); is {
					t.Fatalf("%d reads while 11 waits to write", n)
				}
			case 1:
				if n > 2 {
					l.Leave(n)
				}
			case 2:
				l.Unlock(n)
			}
			if slices.ContainsFunc(l.Readers(), func(n int) bool { return !slices.Contains(before, n) }) {
				t.Fatalf("%v read while 11 waits to write, before it were %v", l.Readers(), before)
			}
		}
		if l.Writer() != 11 {
			t.Fatalf("Writer() = %d, want 11", l.Writer())
		}
	}
}

// P9.4: who waits first to write, and doesn't leave, writes first, whoever leaves of the others, and whoever reads.
func TestWhoWaitsFirstToWriteWritesFirst(t *testing.T) {
	orders := [][]int{{4, 0, 3, 1, 2}, {0, 1, 2, 3, 4}, {4, 3, 2, 1, 0}}
	for _, order := range orders {
		for _, leaving := range orders {
			for mask := range 1<<5 - 1 {
				l := (&model{8, none, []int{5}, []int{7, 6}, order}).make(t)
				for _, n := range leaving {
					if mask>>n&1 == 1 {
						wantLeave(t, l, n, true)
					}
				}
				holder := 5
				for _, n := range order {
					if mask>>n&1 == 1 {
						continue
					}
					wantUnlock(t, l, holder, api.OK, n)
					holder = n
				}
				wantUnlock(t, l, holder, api.OK, 7, 6)
			}
		}
	}
}

// P9.4: who left and comes back stands behind those who came meanwhile, in the one row as in the other.
func TestWhoComesBackComesLast(t *testing.T) {
	l := (&model{6, 5, nil, []int{3, 4}, []int{0, 1}}).make(t)
	wantLeave(t, l, 0, true)
	wantLeave(t, l, 3, true)
	wantLock(t, l, 2, false, api.OK)
	wantLock(t, l, 0, false, api.OK)
	wantRLock(t, l, 3, false, api.OK)
	holder := 5
	for _, n := range []int{1, 2, 0} {
		wantUnlock(t, l, holder, api.OK, n)
		holder = n
	}
	wantUnlock(t, l, holder, api.OK, 4, 3)
	wantUnlock(t, l, 4, api.OK)
	wantRLock(t, l, 4, true, api.OK)
	stands(t, l, none, []int{3, 4}, nil, nil)
}

// P9.4: nobody waits where it could be given: to write, only while one holds it; to read, only while one writes or waits
// to write.
func TestNobodyWaitsForNothing(t *testing.T) {
	r := rand.New(rand.NewSource(96))
	l, frees := made(t, 5), 0
	for range 5000 {
		n := r.Intn(5)
		switch r.Intn(6) {
		case 0:
			l.RLock(n)
		case 1:
			l.Lock(n)
		case 2:
			l.Leave(n)
		default:
			l.Unlock(n)
		}
		reads, writes := l.Waiting()
		isHeld := l.Writer() != none || len(l.Readers()) > 0
		if len(writes) > 0 && !isHeld {
			t.Fatalf("nobody holds it, and %v wait to write", writes)
		}
		if len(reads) > 0 && l.Writer() == none && len(writes) == 0 {
			t.Fatalf("nobody writes or waits to write, and %v wait to read", reads)
		}
		if !isHeld {
			frees++
		}
	}
	if frees < 100 {
		t.Errorf("nobody held it %d times only", frees)
	}
}
