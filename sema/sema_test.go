package sema_test

import (
	"math"
	"math/big"
	"math/rand"
	"slices"
	"testing"

	"countermand/api"
	"countermand/sema"
)

const (
	least = math.MinInt64
	top   = math.MaxInt64
)

// want is one who waits, and its weight.
type want struct {
	t int
	n int64
}

// model is a semaphore as plainly as the document says it: its room, how much is held, and the two rows of those who wait.
type model struct {
	tasks         int
	room, held    int64
	wants, doomed []want
}

func empty(tasks int, room int64) *model { return &model{tasks: tasks, room: room} }

func (m *model) clone() *model {
	return &model{m.tasks, m.room, m.held, slices.Clone(m.wants), slices.Clone(m.doomed)}
}

func (m *model) hasTask(t int) bool { return 0 <= t && t < m.tasks }

// fits adds two numbers that aren't below 0 as ones of which the sum can't go round.
func (m *model) fits(n int64) bool { return uint64(m.held)+uint64(n) <= uint64(m.room) }

func (m *model) weight(t int) (int64, bool) {
	for _, row := range [][]want{m.wants, m.doomed} {
		for _, w := range row {
			if w.t == t {
				return w.n, true
			}
		}
	}
	return 0, false
}

func (m *model) waits(t int) bool {
	_, is := m.weight(t)
	return is
}

func (m *model) mayAsk(t int, n int64) api.Errno {
	switch {
	case !m.hasTask(t):
		return api.ErrName
	case n < 0:
		return api.ErrArg
	case m.waits(t):
		return api.ErrWaits
	}
	return api.OK
}

func (m *model) acquire(t int, n int64) (bool, api.Errno) {
	e := m.mayAsk(t, n)
	switch {
	case e != api.OK:
		return false, e
	case n > m.room:
		m.doomed = append(slices.Clone(m.doomed), want{t, n})
		return false, api.OK
	case len(m.wants) == 0 && m.fits(n):
		m.held += n
		return true, api.OK
	}
	m.wants = append(slices.Clone(m.wants), want{t, n})
	return false, api.OK
}

func (m *model) tryAcquire(t int, n int64) (bool, api.Errno) {
	if e := m.mayAsk(t, n); e != api.OK {
		return false, e
	}
	is := len(m.wants) == 0 && m.fits(n)
	if is {
		m.held += n
	}
	return is, api.OK
}

func (m *model) give() []int {
	var given []int
	for len(m.wants) > 0 && m.fits(m.wants[0].n) {
		m.held += m.wants[0].n
		given = append(given, m.wants[0].t)
		m.wants = m.wants[1:]
	}
	return given
}

func (m *model) release(n int64) ([]int, api.Errno) {
	switch {
	case n < 0:
		return nil, api.ErrArg
	case n > m.held:
		return nil, api.ErrHeld
	}
	m.held -= n
	return m.give(), api.OK
}

func (m *model) leave(t int) ([]int, bool) {
	if !m.waits(t) {
		return nil, false
	}
	m.wants, m.doomed = without(m.wants, t), without(m.doomed, t)
	return m.give(), true
}

// without is a row without one of its tasks.
func without(row []want, t int) []want {
	return slices.DeleteFunc(slices.Clone(row), func(w want) bool { return w.t == t })
}

// names are the tasks of a row.
func names(row []want) []int {
	var all []int
	for _, w := range row {
		all = append(all, w.t)
	}
	return all
}

// make builds a semaphore that stands as the model does. (What is held was given to a task that may wait, too.)
func (m *model) make(t *testing.T) *sema.Sema {
	t.Helper()
	s := made(t, m.tasks, m.room)
	wantAcquire(t, s, 0, m.held, true, api.OK)
	for _, w := range slices.Concat(m.wants, m.doomed) {
		wantAcquire(t, s, w.t, w.n, false, api.OK)
	}
	return s
}

// outside are numbers of which there is no task, where there are so many.
func outside(many int) []int {
	return []int{
		-1, many, -2, many + 1, 999 + many, 1000 + many, 1 << 16, 1<<16 - 1, 1 << 32, 1<<32 + 1, -1 << 16, -1 << 32,
		math.MinInt, math.MinInt + 1, math.MaxInt, math.MaxInt - 1,
	}
}

func made(t *testing.T, tasks int, room int64) *sema.Sema {
	t.Helper()
	s, e := sema.New(tasks, room)
	if s == nil || e != api.OK {
		t.Fatalf("New(%d, %d) = %v, %d", tasks, room, s, e)
	}
	return s
}

func wantAcquire(t *testing.T, s *sema.Sema, task int, n int64, given bool, want api.Errno) {
	t.Helper()
	if is, e := s.Acquire(task, n); is != given || e != want {
		t.Errorf("Acquire(%d, %d) = %t, %d, want %t, %d", task, n, is, e, given, want)
	}
}

func wantTry(t *testing.T, s *sema.Sema, task int, n int64, given bool, want api.Errno) {
	t.Helper()
	if is, e := s.TryAcquire(task, n); is != given || e != want {
		t.Errorf("TryAcquire(%d, %d) = %t, %d, want %t, %d", task, n, is, e, given, want)
	}
}

func wantRelease(t *testing.T, s *sema.Sema, n int64, want api.Errno, given ...int) {
	t.Helper()
	if l, e := s.Release(n); !slices.Equal(l, given) || e != want {
		t.Errorf("Release(%d) = %v, %d, want %v, %d", n, l, e, given, want)
	}
}

func wantLeave(t *testing.T, s *sema.Sema, task int, want bool, given ...int) {
	t.Helper()
	if l, is := s.Leave(task); !slices.Equal(l, given) || is != want {
		t.Errorf("Leave(%d) = %v, %t, want %v, %t", task, l, is, given, want)
	}
}

// wantBoth asks in both ways for what neither gives.
func wantBoth(t *testing.T, s *sema.Sema, task int, n int64, want api.Errno) {
	t.Helper()
	wantAcquire(t, s, task, n, false, want)
	wantTry(t, s, task, n, false, want)
}

// stands holds all that a semaphore tells against its model.
func stands(t *testing.T, s *sema.Sema, m *model) {
	t.Helper()
	if n := s.Held(); n != m.held {
		t.Errorf("Held() = %d, want %d", n, m.held)
	}
	if n := s.Cap(); n != m.room {
		t.Errorf("Cap() = %d, want %d", n, m.room)
	}
	if w, d := s.Waiting(); !slices.Equal(w, names(m.wants)) || !slices.Equal(d, names(m.doomed)) {
		t.Errorf("Waiting() = %v, %v, want %v, %v", w, d, m.wants, m.doomed)
	}
	for task := -1; task <= min(m.tasks, 12); task++ {
		wantWeight(t, s, m, task)
	}
}

func wantWeight(t *testing.T, s *sema.Sema, m *model, task int) {
	n, is := m.weight(task)
	if got, does := s.Wants(task); got != n || does != is {
		t.Helper()
		t.Errorf("Wants(%d) = %d, %t, want %d, %t", task, got, does, n, is)
	}
}

// The calls that change a semaphore.
const (
	acquire = iota
	try
	release
	leave
)

// call is one of them, and what it is given.
type call struct {
	what, t int
	n       int64
}

// do makes a call of a semaphore and of its model, and holds what they answer, and how they stand then, against each other.
func do(t *testing.T, s *sema.Sema, m *model, c call) {
	t.Helper()
	switch c.what {
	case acquire:
		is, e := m.acquire(c.t, c.n)
		wantAcquire(t, s, c.t, c.n, is, e)
	case try:
		is, e := m.tryAcquire(c.t, c.n)
		wantTry(t, s, c.t, c.n, is, e)
	case release:
		given, e := m.release(c.n)
		wantRelease(t, s, c.n, e, given...)
	case leave:
		given, is := m.leave(c.t)
		wantLeave(t, s, c.t, is, given...)
	}
	stands(t, s, m)
}

// distinct are numbers, each of them once.
func distinct(n ...int64) []int64 {
	slices.Sort(n)
	return slices.Compact(n)
}

// more is a number and 1, but never more than there may be.
func more(n int64) int64 { return n + min(1, top-n) }

// weights are those that bring a semaphore to an edge, or beside one.
func weights(m *model) []int64 {
	left := m.room - m.held
	return distinct(-1, 0, 1, left, more(left), m.room, more(m.room), top)
}

// parts are what brings what is held to an edge when it is released, or beside one.
func parts(m *model) []int64 {
	all := []int64{-1, 0, 1, m.held / 2, m.held, more(m.held)}
	for _, w := range m.wants {
		if n := w.n - (m.room - m.held); n > 0 {
			all = append(all, n-1, n)
		}
	}
	return distinct(all...)
}

// callsOf are all calls that change a semaphore which stands as the model does, be they right or wrong.
func callsOf(m *model) []call {
	var all []call
	for task := -1; task <= m.tasks; task++ {
		all = append(all, call{leave, task, 0})
		asked := weights(m)
		if !m.hasTask(task) {
			asked = []int64{-1, 0, top}
		}
		for _, n := range asked {
			all = append(all, call{acquire, task, n}, call{try, task, n})
		}
	}
	for _, n := range parts(m) {
		all = append(all, call{release, 0, n})
	}
	return all
}

// rows are all pairs of rows of these tasks, or of some of them, with the weights that one may wait for.
func rows(from *model) []*model {
	all := []*model{from}
	for at := 0; at < len(all); at++ {
		for task := range from.tasks {
			m := all[at]
			if m.waits(task) {
				continue
			}
			for _, n := range distinct(0, 1, m.room-m.held, more(m.room-m.held), m.room) {
				// Nobody waits first where it fits; and who is doomed comes behind all, so that no pair of rows comes twice.
				if n > m.room || len(m.wants) == 0 && m.fits(n) || len(m.doomed) > 0 {
					continue
				}
				c := m.clone()
				c.wants = append(c.wants, want{task, n})
				all = append(all, c)
			}
			if m.room < top {
				c := m.clone()
				c.doomed = append(c.doomed, want{task, m.room + 1})
				all = append(all, c)
			}
		}
	}
	return all
}

// semas are semaphores of so many tasks: nothing, all, or a part of the room is held, whoever waits.
func semas(tasks int, rooms ...int64) []*model {
	var all []*model
	for _, room := range rooms {
		for _, held := range distinct(0, room/2, room-min(1, room), room) {
			from := empty(tasks, room)
			from.held = held
			all = append(all, rows(from)...)
		}
	}
	return all
}

// some are semaphores of each kind: nobody, one or several want something, and nobody, one or several are doomed.
func some() []*model { return semas(3, 0, 1, 5, top) }

// The document's example.
func TestExample(t *testing.T) {
	s := made(t, 4, 5)
	wantAcquire(t, s, 1, 4, true, api.OK)
	wantAcquire(t, s, 2, 3, false, api.OK)
	wantAcquire(t, s, 3, 1, false, api.OK)
	wantRelease(t, s, 4, api.OK, 2, 3)
	stands(t, s, &model{tasks: 4, room: 5, held: 4})
}

// P13.1: of each size and room that there may be; just those tasks are there, and just so much room.
func TestNew(t *testing.T) {
	for _, tasks := range []int{1, 2, 3, 16, 255, 256, 257, 999, 1000} {
		for _, room := range []int64{0, 1, 2, 255, 1<<31 - 1, 1 << 32, top - 1, top} {
			s := made(t, tasks, room)
			stands(t, s, empty(tasks, room))
			for _, task := range outside(tasks) {
				wantBoth(t, s, task, 0, api.ErrName)
				wantLeave(t, s, task, false)
				wantWeight(t, s, empty(tasks, room), task)
			}
			wantRelease(t, s, 1, api.ErrHeld)
			stands(t, s, empty(tasks, room))
			for _, task := range []int{0, tasks / 2, tasks - 1} {
				wantAcquire(t, s, task, room, true, api.OK)
				wantRelease(t, s, room, api.OK)
				wantTry(t, s, task, room, true, api.OK)
				wantRelease(t, s, room, api.OK)
			}
			if room < top {
				wantTry(t, s, tasks-1, room+1, false, api.OK)
			}
			stands(t, s, empty(tasks, room))
		}
	}
}

// P13.1
func TestNewThatMayNotBe(t *testing.T) {
	sizes := []int{
		0, -1, -2, -1000, 1001, 1002, 2000, 1 << 16, 1<<16 + 1, 1 << 32, 1<<32 + 1, -1 << 32, math.MinInt, math.MinInt + 1, math.MaxInt,
	}
	rooms := []int64{-1, -2, -1 << 31, -1 << 32, least, least + 1}
	refused := func(tasks int, room int64) {
		if s, e := sema.New(tasks, room); s != nil || e != api.ErrArg {
			t.Errorf("New(%d, %d) = %v, %d, want nil, %d", tasks, room, s, e, api.ErrArg)
		}
	}
	for _, tasks := range sizes {
		for _, room := range slices.Concat(rooms, []int64{0, 1, 5, top}) {
			refused(tasks, room)
		}
	}
	for _, room := range rooms {
		for _, tasks := range []int{1, 2, 999, 1000} {
			refused(tasks, room)
		}
	}
}

// P13.1: what is held, and the room, are told whole, however great they are, and however often one asks.
func TestHeldAndCap(t *testing.T) {
	for _, n := range []int64{0, 1, 2, 255, 256, 1<<31 - 1, 1 << 31, 1<<32 - 1, 1 << 32, 1<<53 + 1, 1 << 62, top - 1, top} {
		for _, room := range distinct(n, more(n), top) {
			s := made(t, 2, room)
			wantAcquire(t, s, 1, n, true, api.OK)
			for range 3 {
				stands(t, s, &model{tasks: 2, room: room, held: n})
			}
		}
	}
}

// P13.1: both rows are told in the order in which their tasks came, not in that of their numbers, and go on waiting.
func TestWaiting(t *testing.T) {
	s, m := made(t, 9, 5), empty(9, 5)
	for _, c := range []call{
		{acquire, 0, 4}, {acquire, 7, 6}, {acquire, 5, 2}, {acquire, 8, 0}, {acquire, 2, top}, {acquire, 1, 5}, {acquire, 0, 1},
		{acquire, 3, 6}, {acquire, 6, 5}, {acquire, 4, 7},
	} {
		do(t, s, m, c)
		for range 3 {
			stands(t, s, m)
		}
	}
	wants, doomed := s.Waiting()
	if !slices.Equal(wants, []int{5, 8, 1, 0, 6}) || !slices.Equal(doomed, []int{7, 2, 3, 4}) {
		t.Errorf("Waiting() = %v, %v", wants, doomed)
	}
}

// P13.1: the weight of who waits is told, wanting or doomed, and of nobody else: who never came, who was given what it asked
// for at once or later, who left, who tried only, who is no task.
func TestWants(t *testing.T) {
	s := made(t, 9, 5)
	wantAcquire(t, s, 0, 5, true, api.OK)
	wantTry(t, s, 1, 0, true, api.OK)
	wantTry(t, s, 2, 1, false, api.OK)
	for _, w := range []want{{3, 1}, {4, 5}, {5, 0}, {6, 6}, {7, top}} {
		wantAcquire(t, s, w.t, w.n, false, api.OK)
	}
	for _, w := range []want{{3, 1}, {4, 5}, {5, 0}, {6, 6}, {7, top}} {
		if n, is := s.Wants(w.t); n != w.n || !is {
			t.Errorf("Wants(%d) = %d, %t, want %d, true", w.t, n, is, w.n)
		}
	}
	wantLeave(t, s, 6, true)
	wantRelease(t, s, 1, api.OK, 3)
	for _, task := range append(outside(9), 0, 1, 2, 3, 6, 8) {
		if n, is := s.Wants(task); n != 0 || is {
			t.Errorf("Wants(%d) = %d, %t, want 0, false", task, n, is)
		}
	}
	stands(t, s, &model{9, 5, 5, []want{{4, 5}, {5, 0}}, []want{{7, top}}})
}

// P13.2: where nobody wants anything it is given what fits, by both calls; what doesn't fit one waits for, and more than the
// room one is doomed by; who tried neither waits nor is doomed.
func TestAsk(t *testing.T) {
	for _, c := range []struct {
		room, held, n int64
		row           int // 0: it is given, 1: it wants, 2: it is doomed
	}{
		{0, 0, 0, 0}, {0, 0, 1, 2}, {0, 0, top, 2},
		{1, 0, 0, 0}, {1, 0, 1, 0}, {1, 0, 2, 2}, {1, 1, 0, 0}, {1, 1, 1, 1}, {1, 1, 2, 2}, {1, 1, top, 2},
		{5, 0, 1, 0}, {5, 0, 4, 0}, {5, 0, 5, 0}, {5, 0, 6, 2}, {5, 0, top, 2},
		{5, 3, 0, 0}, {5, 3, 1, 0}, {5, 3, 2, 0}, {5, 3, 3, 1}, {5, 3, 4, 1}, {5, 3, 5, 1}, {5, 3, 6, 2}, {5, 3, top, 2},
		{5, 5, 0, 0}, {5, 5, 1, 1}, {5, 5, 5, 1}, {5, 5, 6, 2}, {5, 5, top, 2},
		{1 << 62, 1 << 62, 1 << 62, 1}, {1 << 62, 1 << 62, 1<<62 + 1, 2}, {1 << 62, 1, 1<<62 - 1, 0}, {1 << 62, 1, top, 2},
		{top - 1, 0, top - 1, 0}, {top - 1, 0, top, 2}, {top - 1, 1, top - 2, 0}, {top - 1, 1, top - 1, 1}, {top - 1, top - 1, top, 2},
		{top, 0, top, 0}, {top, 1, top - 1, 0}, {top, 1, top, 1}, {top, 1 << 62, 1 << 62, 1}, {top, 1 << 62, 1<<62 - 1, 0},
		{top, top - 1, 1, 0}, {top, top - 1, 2, 1}, {top, top - 1, top, 1}, {top, top, 0, 0}, {top, top, 1, 1}, {top, top, top, 1},
	} {
		for _, doomed := range [][]want{nil, {{2, top}}, {{2, top}, {0, top}}} {
			if c.room == top {
				doomed = nil
			}
			from := &model{3, c.room, c.held, nil, doomed}
			to := from.clone()
			if c.row == 0 {
				to.held += c.n
			}
			s := from.make(t)
			wantTry(t, s, 1, c.n, c.row == 0, api.OK)
			stands(t, s, to)

			switch c.row {
			case 1:
				to.wants = append(to.wants, want{1, c.n})
			case 2:
				to.doomed = append(to.doomed, want{1, c.n})
			}
			s = from.make(t)
			wantAcquire(t, s, 1, c.n, c.row == 0, api.OK)
			stands(t, s, to)
			if t.Failed() {
				t.Fatalf("of %v, behind %v", c, doomed)
			}
		}
	}
}

// P13.2: where somebody wants something already even what fits isn't given, a weight of 0 neither; who asks stands behind all.
func TestAskBehindOthers(t *testing.T) {
	for _, first := range []int64{3, 4, 5} {
		for _, n := range []int64{0, 1, 2, 3, 5} {
			m := &model{6, 5, 3, []want{{4, first}}, nil}
			s := m.make(t)
			for _, task := range []int{2, 5, 1} {
				wantTry(t, s, task, n, false, api.OK)
				stands(t, s, m)
				wantAcquire(t, s, task, n, false, api.OK)
				m.wants = append(m.wants, want{task, n})
				stands(t, s, m)
			}
		}
	}
	s := made(t, 6, 5)
	wantAcquire(t, s, 0, 3, true, api.OK)
	wantAcquire(t, s, 1, 6, false, api.OK)
	wantAcquire(t, s, 2, 2, true, api.OK)
	wantTry(t, s, 3, 0, true, api.OK)
	wantAcquire(t, s, 4, 0, true, api.OK)
	stands(t, s, &model{6, 5, 5, nil, []want{{1, 6}}})
}

// P13.2: who is doomed holds nobody up, and a weight of more than the room neither, where somebody wants something.
func TestDoomedBehindOthers(t *testing.T) {
	m := &model{6, 5, 3, []want{{4, 3}}, []want{{3, 6}}}
	s := m.make(t)
	for _, w := range []want{{1, 6}, {5, top}, {0, 7}} {
		wantTry(t, s, w.t, w.n, false, api.OK)
		stands(t, s, m)
		wantAcquire(t, s, w.t, w.n, false, api.OK)
		m.doomed = append(m.doomed, w)
		stands(t, s, m)
	}
	wantRelease(t, s, 3, api.OK, 4)
	wantTry(t, s, 4, 2, true, api.OK)
}

// P13.2: who waits already, wanting or doomed, may not ask once more, for whatever weight; that changes nothing.
func TestWaitsAlready(t *testing.T) {
	for _, from := range some() {
		s := from.make(t)
		for _, w := range slices.Concat(from.wants, from.doomed) {
			for _, n := range weights(from) {
				e := api.ErrWaits
				if n < 0 {
					e = api.ErrArg
				}
				wantBoth(t, s, w.t, n, e)
				stands(t, s, from)
			}
		}
	}
}

// P13.2: of no such task that is told first, of a weight below 0 next, and then that one waits already; nothing is changed.
func TestWhichErrorComesFirst(t *testing.T) {
	for _, from := range some() {
		s := from.make(t)
		for _, task := range outside(3) {
			for _, n := range []int64{least, -1, 0, 1, top} {
				wantBoth(t, s, task, n, api.ErrName)
			}
		}
		for task := range 3 {
			for _, n := range []int64{least, least + 1, -1 << 32, -2, -1} {
				wantBoth(t, s, task, n, api.ErrArg)
			}
		}
		stands(t, s, from)
	}
}

// P13.3: what is below 0, or more than is held, isn't released; nothing is changed.
func TestReleaseThatMayNotBe(t *testing.T) {
	for _, from := range some() {
		s := from.make(t)
		for _, n := range []int64{least, least + 1, -1 << 32, -2, -1} {
			wantRelease(t, s, n, api.ErrArg)
			stands(t, s, from)
		}
		if from.held == top {
			continue
		}
		for _, n := range distinct(from.held+1, more(from.held+1), top) {
			wantRelease(t, s, n, api.ErrHeld)
			stands(t, s, from)
		}
	}
}

// P13.3: 0 released gives to nobody, whoever waits, and however often.
func TestReleaseOfZero(t *testing.T) {
	for _, from := range some() {
		s := from.make(t)
		for range 2 {
			wantRelease(t, s, 0, api.OK)
			stands(t, s, from)
		}
	}
}

// P13.3: what is released gives to nobody, to the first alone, to several, or to all; whoever comes first that doesn't fit
// holds the others up, and who is doomed nobody.
func TestRelease(t *testing.T) {
	wants, doomed := []want{{3, 2}, {1, 3}, {5, 0}, {4, 4}, {2, 1}}, []want{{6, 11}, {0, top}}
	for _, c := range []struct {
		n, held int64
		given   []int
	}{
		{0, 10, nil},
		{1, 9, nil},
		{2, 10, []int{3}},
		{3, 9, []int{3}},
		{4, 8, []int{3}},
		{5, 10, []int{3, 1, 5}},
		{6, 9, []int{3, 1, 5}},
		{8, 7, []int{3, 1, 5}},
		{9, 10, []int{3, 1, 5, 4}},
		{10, 10, []int{3, 1, 5, 4, 2}},
	} {
		s := (&model{7, 10, 10, wants, doomed}).make(t)
		wantRelease(t, s, c.n, api.OK, c.given...)
		stands(t, s, &model{7, 10, c.held, wants[len(c.given):], doomed})
	}
	s := (&model{7, 10, 10, nil, doomed}).make(t)
	wantRelease(t, s, 4, api.OK)
	wantRelease(t, s, 6, api.OK)
	wantRelease(t, s, 1, api.ErrHeld)
	stands(t, s, &model{7, 10, 0, nil, doomed})
}

// P13.3: the greatest weights are given and released without going round.
func TestGreatestWeights(t *testing.T) {
	s, m := made(t, 5, top), empty(5, top)
	for _, c := range []call{
		{acquire, 0, top}, {acquire, 1, top}, {acquire, 2, top - 1}, {acquire, 3, 1}, {acquire, 4, 1},
		{release, 0, top - 1}, {release, 0, 1}, {release, 0, top}, {release, 0, top - 1}, {release, 0, 1},
	} {
		do(t, s, m, c)
	}
	stands(t, s, &model{tasks: 5, room: top, held: 1})
}

// P13.3: who wants something first, last, between others or alone leaves, and so does who is doomed; the others stay in their
// order, and as much is held, where nobody fits then.
func TestLeave(t *testing.T) {
	for _, length := range []int{1, 2, 3, 4} {
		wants := []want{{3, 5}, {1, 3}, {5, 0}, {4, 4}}[:length]
		wants[length-1].n = 5
		for at, w := range wants {
			if at == 0 && length > 1 && wants[1].n < 5 {
				continue
			}
			m := &model{7, 5, 2, wants, []want{{0, 6}, {2, top}}}
			s := m.make(t)
			wantLeave(t, s, w.t, true)
			m.wants = without(wants, w.t)
			stands(t, s, m)
			wantLeave(t, s, w.t, false)
			stands(t, s, m)
		}
	}
	doomed := []want{{3, 6}, {1, top}, {5, 7}, {4, 6}}
	for _, row := range [][]want{doomed, doomed[:3], doomed[:2], doomed[:1]} {
		for _, w := range row {
			m := &model{7, 5, 2, []want{{0, 4}, {6, 1}}, row}
			s := m.make(t)
			wantLeave(t, s, w.t, true)
			m.doomed = without(row, w.t)
			stands(t, s, m)
			wantLeave(t, s, w.t, false)
			stands(t, s, m)
			wantRelease(t, s, 1, api.OK, 0)
		}
	}
}

// P13.3: when the first one leaves, those behind it are given what fits then: nobody, one, several, or all.
func TestFirstLeaves(t *testing.T) {
	for _, c := range []struct {
		behind []want
		held   int64
		given  []int
	}{
		{nil, 3, nil},
		{[]want{{1, 8}}, 3, nil},
		{[]want{{1, 8}, {2, 0}}, 3, nil},
		{[]want{{1, 7}}, 10, []int{1}},
		{[]want{{2, 0}, {1, 8}}, 3, []int{2}},
		{[]want{{2, 5}, {1, 3}, {5, 1}}, 8, []int{2}},
		{[]want{{5, 5}, {1, 2}, {2, 0}, {4, 1}}, 10, []int{5, 1, 2}},
		{[]want{{5, 0}, {1, 0}, {2, 0}, {4, 0}}, 3, []int{5, 1, 2, 4}},
		{[]want{{5, 1}, {1, 1}, {2, 1}, {4, 1}}, 7, []int{5, 1, 2, 4}},
	} {
		doomed := []want{{6, 11}}
		s := (&model{7, 10, 3, slices.Concat([]want{{3, 9}}, c.behind), doomed}).make(t)
		wantLeave(t, s, 3, true, c.given...)
		stands(t, s, &model{7, 10, c.held, c.behind[len(c.given):], doomed})
	}
}

// P13.3: when one leaves that isn't first, nobody is given anything, as the first one doesn't fit still.
func TestOtherThanFirstLeaves(t *testing.T) {
	for _, from := range some() {
		for i, w := range slices.Concat(from.wants, from.doomed) {
			if i == 0 && len(from.wants) > 0 {
				continue
			}
			s, m := from.make(t), from.clone()
			wantLeave(t, s, w.t, true)
			m.wants, m.doomed = without(m.wants, w.t), without(m.doomed, w.t)
			stands(t, s, m)
		}
	}
}

// P13.3: who doesn't wait doesn't leave: who never came, who is no task, who left, who was given what it asked for at once or
// later, who tried only; nothing is changed, and what it was given is held still.
func TestLeaveOfNotWaiting(t *testing.T) {
	for _, from := range some() {
		s := from.make(t)
		for _, task := range append(outside(3), 0, 1, 2) {
			if from.waits(task) {
				continue
			}
			wantLeave(t, s, task, false)
			stands(t, s, from)
		}
	}
	s := made(t, 8, 5)
	wantAcquire(t, s, 0, 3, true, api.OK)
	wantTry(t, s, 1, 1, true, api.OK)
	wantTry(t, s, 2, 2, false, api.OK)
	wantAcquire(t, s, 3, 2, false, api.OK)
	wantAcquire(t, s, 4, 6, false, api.OK)
	wantAcquire(t, s, 5, 5, false, api.OK)
	wantRelease(t, s, 1, api.OK, 3)
	wantLeave(t, s, 4, true)
	for _, task := range []int{0, 1, 2, 3, 4, 6, 7} {
		wantLeave(t, s, task, false)
		stands(t, s, &model{8, 5, 5, []want{{5, 5}}, nil})
	}
}

// P13.3: all leave, in whatever order, and nobody but those who wait still is given anything.
func TestAllLeave(t *testing.T) {
	for _, order := range [][]int{{3, 0, 2, 4}, {4, 2, 0, 3}, {0, 4, 3, 2}, {2, 3, 4, 0}} {
		m := &model{5, 5, 5, []want{{3, 2}, {0, 5}}, []want{{2, 6}, {4, top}}}
		s := m.make(t)
		for _, task := range order {
			do(t, s, m, call{leave, task, 0})
		}
		stands(t, s, &model{tasks: 5, room: 5, held: 5})
		wantRelease(t, s, 5, api.OK)
		stands(t, s, empty(5, 5))
	}
}

// P13.3: who left may wait again, behind those who came meanwhile, for another weight, or in the other row.
func TestWaitsAgainBehindLeave(t *testing.T) {
	m := &model{6, 5, 5, []want{{0, 1}, {1, 2}}, []want{{2, 6}, {3, 7}}}
	s := m.make(t)
	for _, c := range []call{
		{leave, 0, 0}, {leave, 2, 0}, {acquire, 4, 1}, {acquire, 5, 8}, {acquire, 0, 3}, {acquire, 2, 9}, {acquire, 0, 3},
	} {
		do(t, s, m, c)
	}
	stands(t, s, &model{6, 5, 5, []want{{1, 2}, {4, 1}, {0, 3}}, []want{{3, 7}, {5, 8}, {2, 9}}})
	for _, c := range []call{{leave, 1, 0}, {leave, 3, 0}, {acquire, 3, 0}, {acquire, 1, top}} {
		do(t, s, m, c)
	}
	stands(t, s, &model{6, 5, 5, []want{{4, 1}, {0, 3}, {3, 0}}, []want{{5, 8}, {2, 9}, {1, top}}})
	wantRelease(t, s, 5, api.OK, 4, 0, 3)
	stands(t, s, &model{6, 5, 4, nil, []want{{5, 8}, {2, 9}, {1, top}}})
}

// P13.2, P13.3: who was given something may ask again, be given more beside it, wait, or be doomed; what it was given before
// is held still.
func TestWaitsAgainBehindBeingGiven(t *testing.T) {
	s := made(t, 4, 5)
	wantAcquire(t, s, 1, 2, true, api.OK)
	wantAcquire(t, s, 1, 2, true, api.OK)
	wantAcquire(t, s, 1, 2, false, api.OK)
	stands(t, s, &model{4, 5, 4, []want{{1, 2}}, nil})
	wantAcquire(t, s, 0, 3, false, api.OK)
	wantRelease(t, s, 4, api.OK, 1, 0)
	wantAcquire(t, s, 0, 1, false, api.OK)
	wantAcquire(t, s, 1, 5, false, api.OK)
	stands(t, s, &model{4, 5, 5, []want{{0, 1}, {1, 5}}, nil})
	wantLeave(t, s, 0, true)
	wantAcquire(t, s, 0, 6, false, api.OK)
	wantRelease(t, s, 5, api.OK, 1)
	wantAcquire(t, s, 1, top, false, api.OK)
	stands(t, s, &model{4, 5, 5, nil, []want{{0, 6}, {1, top}}})
}

// spoil changes a list that was told, and what stands behind it.
func spoil(list []int) {
	_ = append(list, 77, 78)
	_ = append(list[:0], 79)
	all := list[:cap(list)]
	for i := range all {
		all[i] = 80
	}
}

// P13.1, P13.3: a list that was told is the asker's own: whoever changes it changes nothing that is kept.
func TestListsAreNew(t *testing.T) {
	for _, from := range some() {
		s, m := from.make(t), from.clone()
		for range 2 {
			wants, doomed := s.Waiting()
			spoil(wants)
			stands(t, s, m)
			spoil(doomed)
			stands(t, s, m)
		}
		given, _ := s.Release(from.held)
		again, _ := m.release(from.held)
		if !slices.Equal(given, again) {
			t.Errorf("Release(%d) = %v, want %v", from.held, given, again)
		}
		spoil(given)
		stands(t, s, m)
	}
	m := &model{5, 5, 2, []want{{3, 4}, {1, 1}, {2, 2}, {0, 1}}, []want{{4, 6}}}
	s := m.make(t)
	given, _ := s.Leave(3)
	spoil(given)
	stands(t, s, &model{5, 5, 5, []want{{0, 1}}, []want{{4, 6}}})
}

// P13.1, P13.3: a list that was told stays as it was, whatever is done later, and has nothing in common with another one.
func TestListsStay(t *testing.T) {
	s := (&model{8, 5, 5, []want{{3, 2}, {1, 3}, {5, 1}, {0, 1}}, []want{{6, 6}, {4, 7}}}).make(t)
	wants, doomed := s.Waiting()
	wants2, doomed2 := s.Waiting()
	spoil(wants2)
	spoil(doomed2)
	released, _ := s.Release(4)
	s.Leave(6)
	s.Acquire(6, 1)
	s.Acquire(3, 9)
	wants3, doomed3 := s.Waiting()
	left, _ := s.Leave(1)
	again, _ := s.Release(5)
	for i, list := range []struct{ is, was []int }{
		{wants, []int{3, 1, 5, 0}}, {doomed, []int{6, 4}}, {released, []int{3}}, {wants3, []int{1, 5, 0, 6}},
		{doomed3, []int{4, 3}}, {left, []int{5, 0}}, {again, []int{6}},
	} {
		if !slices.Equal(list.is, list.was) {
			t.Errorf("list %d that was told as %v is %v now", i, list.was, list.is)
		}
		spoil(list.is)
	}
	stands(t, s, &model{8, 5, 1, nil, []want{{4, 7}, {3, 9}}})
}

// P13.1: two semaphores have nothing in common: who waits for one may wait for the other one.
func TestSemasAreApart(t *testing.T) {
	a, b := (&model{3, 5, 5, []want{{2, 1}, {0, 2}}, []want{{1, 6}}}).make(t), made(t, 3, 6)
	stands(t, b, empty(3, 6))
	wantAcquire(t, b, 2, 6, true, api.OK)
	wantAcquire(t, b, 1, 3, false, api.OK)
	wantAcquire(t, b, 0, 7, false, api.OK)
	wantRelease(t, a, 3, api.OK, 2, 0)
	wantLeave(t, a, 1, true)
	stands(t, a, &model{tasks: 3, room: 5, held: 5})
	stands(t, b, &model{3, 6, 6, []want{{1, 3}}, []want{{0, 7}}})
}

// P13.1 to P13.3 of a semaphore with one task alone.
func TestOneTask(t *testing.T) {
	s, m := made(t, 1, 1), empty(1, 1)
	for range 2 {
		for _, c := range []call{
			{leave, 0, 0}, {release, 0, 1}, {acquire, 0, 1}, {try, 0, 1}, {try, 0, 0}, {acquire, 0, 1}, {acquire, 0, 0}, {try, 0, 0},
			{acquire, 1, 0}, {leave, 1, 0}, {leave, 0, 0}, {acquire, 0, 2}, {acquire, 0, 1}, {release, 0, 1}, {leave, 0, 0},
			{acquire, 0, 0}, {acquire, 0, 1}, {acquire, 0, 1}, {release, 0, 1}, {release, 0, 1},
		} {
			do(t, s, m, c)
		}
		stands(t, s, empty(1, 1))
	}
}

// P13.1 to P13.3 of a semaphore without room: nothing but a weight of 0 is given, and all else is doomed.
func TestNoRoom(t *testing.T) {
	s := made(t, 4, 0)
	for task := range 4 {
		wantAcquire(t, s, task, 0, true, api.OK)
		wantTry(t, s, task, 0, true, api.OK)
		wantTry(t, s, task, 1, false, api.OK)
	}
	wantAcquire(t, s, 2, 1, false, api.OK)
	wantAcquire(t, s, 0, top, false, api.OK)
	wantBoth(t, s, 2, 0, api.ErrWaits)
	wantAcquire(t, s, 1, 0, true, api.OK)
	wantRelease(t, s, 0, api.OK)
	wantRelease(t, s, 1, api.ErrHeld)
	stands(t, s, &model{4, 0, 0, nil, []want{{2, 1}, {0, top}}})
	wantLeave(t, s, 2, true)
	stands(t, s, &model{4, 0, 0, nil, []want{{0, top}}})
}

// P13.1 to P13.3 at the greatest size: all wait, every third one leaves, some come back, and the rest is given it; once more.
func TestGreatest(t *testing.T) {
	s, m := made(t, 1000, 1000), empty(1000, 1000)
	for range 2 {
		do(t, s, m, call{acquire, 0, 1000})
		for i := range 1000 {
			do(t, s, m, call{acquire, i * 7 % 1000, int64(i % 1003)})
			do(t, s, m, call{acquire, i * 7 % 1000, 1001})
		}
		for task := 0; task < 1000; task += 3 {
			do(t, s, m, call{leave, task, 0})
		}
		for task := 0; task < 1000; task += 6 {
			do(t, s, m, call{acquire, task, int64(999 + task%4)})
		}
		for task := range 1000 {
			wantWeight(t, s, m, task)
		}
		for len(m.wants) > 0 {
			do(t, s, m, call{release, 0, m.held})
		}
		do(t, s, m, call{release, 0, m.held})
		for task := range 1000 {
			do(t, s, m, call{leave, task, 0})
		}
		stands(t, s, empty(1000, 1000))
	}
}

// P13.3: all tasks that there may be wait, and all of them are given it at once, by a release, and by who leaves.
func TestAllAreGiven(t *testing.T) {
	var wants []want
	for i := range 1000 {
		wants = append(wants, want{(i*7 + 500) % 1000, 1})
	}
	s := (&model{1000, 1000, 1000, wants, nil}).make(t)
	wantRelease(t, s, 1000, api.OK, names(wants)...)
	stands(t, s, &model{tasks: 1000, room: 1000, held: 1000})

	wants[0].n = 1000
	s = (&model{1000, 1000, 1, wants, nil}).make(t)
	wantLeave(t, s, wants[0].t, true, names(wants[1:])...)
	stands(t, s, &model{tasks: 1000, room: 1000, held: 1000})
}

// P13.1 to P13.3: whatever is called, be it right or wrong, of small semaphores, however they stand, and what each one says of
// every call that comes then.
func TestEveryTwoCallsOfSmallSemas(t *testing.T) {
	for _, from := range slices.Concat(semas(1, 0, 1, 5, top-1, top), semas(2, 0, 1, 3)) {
		for _, first := range callsOf(from) {
			then := from.clone()
			do(t, from.make(t), then, first)
			for _, second := range callsOf(then) {
				s, m := from.make(t), from.clone()
				do(t, s, m, first)
				do(t, s, m, second)
				if t.Failed() {
					t.Fatalf("%v, then call %v, then %v", *from, first, second)
				}
			}
		}
	}
}

// P13.1 to P13.3: each call of semaphores of three tasks, and what can be given behind it, when all is released.
func TestEveryCall(t *testing.T) {
	for _, from := range some() {
		for _, c := range callsOf(from) {
			s, m := from.make(t), from.clone()
			do(t, s, m, c)
			do(t, s, m, call{release, 0, m.held})
			if t.Failed() {
				t.Fatalf("%v, then call %v", *from, c)
			}
		}
	}
}

// someCall is a call that changes a semaphore, often one that is right.
func someCall(r *rand.Rand, m *model) call {
	task, n := r.Intn(m.tasks+2)-1, r.Int63n(min(m.room, top-2)+2)
	switch r.Intn(12) {
	case 0:
		all := weights(m)
		return call{acquire, task, all[r.Intn(len(all))]}
	case 1:
		all := weights(m)
		return call{try, task, all[r.Intn(len(all))]}
	case 2:
		all := parts(m)
		return call{release, 0, all[r.Intn(len(all))]}
	case 3:
		return call{release, 0, r.Int63n(max(m.held, 1))}
	case 4, 5:
		return call{leave, task, 0}
	case 6:
		return call{try, task, n}
	}
	return call{acquire, task, n}
}

// P13.1 to P13.3: long ways, on which nothing is left of what was.
func TestLongWays(t *testing.T) {
	for seed := range int64(100) {
		r := rand.New(rand.NewSource(seed))
		rooms := []int64{0, 1, 2, 5, 20, 1 << 40, top - 1, top}
		m := empty(1+r.Intn(10), rooms[r.Intn(len(rooms))])
		s := made(t, m.tasks, m.room)
		for range 400 {
			c := someCall(r, m)
			do(t, s, m, c)
			if t.Failed() {
				t.Fatalf("seed %d: call %v", seed, c)
			}
		}
	}
}

// ledger is what is known of a semaphore by what its calls answered, and not by what it tells of itself.
type ledger struct {
	room, held *big.Int
	asked      map[int]int64 // by task, the weight for which it waits
	came       []int         // who waits for what may be had, in the order in which they came
	given      int           // how many were given something that they waited for
}

func newLedger(room int64) *ledger {
	return &ledger{room: big.NewInt(room), held: new(big.Int), asked: map[int]int64{}}
}

func (l *ledger) add(n int64) { l.held.Add(l.held, big.NewInt(n)) }

func (l *ledger) isDoomed(t int) bool { return big.NewInt(l.asked[t]).Cmp(l.room) > 0 }

// fits tells whether a weight fits beside what was given, less what was released.
func (l *ledger) fits(n int64) bool {
	return new(big.Int).Add(l.held, big.NewInt(n)).Cmp(l.room) <= 0
}

// goes takes out one who waits no more.
func (l *ledger) goes(t int) {
	delete(l.asked, t)
	l.came = slices.DeleteFunc(l.came, func(n int) bool { return n == t })
}

// take takes in those who were given what they waited for: the first one first, and nobody who is doomed.
func (l *ledger) take(t *testing.T, given []int) {
	t.Helper()
	for _, task := range given {
		if len(l.came) == 0 || l.came[0] != task || l.isDoomed(task) {
			t.Fatalf("%d is given, and those who came are %v, by %v", task, l.came, l.asked)
		}
		l.add(l.asked[task])
		l.goes(task)
		l.given++
	}
}

// ask takes in what a call answered that asked for a weight.
func (l *ledger) ask(t *testing.T, task int, n int64, given, waits bool) {
	t.Helper()
	if given {
		if len(l.came) > 0 {
			t.Fatalf("%d of %d is given ahead of %v", n, task, l.came)
		}
		l.add(n)
		return
	}
	if !waits {
		return
	}
	l.asked[task] = n
	if !l.isDoomed(task) {
		l.came = append(l.came, task)
	}
}

// step makes some call of a semaphore, and takes in what it answered.
func (l *ledger) step(t *testing.T, r *rand.Rand, s *sema.Sema, tasks int) {
	t.Helper()
	task, n := r.Intn(tasks), r.Int63n(min(s.Cap(), top-2)+2)
	if r.Intn(3) == 0 {
		n /= 4
	}
	switch r.Intn(8) {
	case 0:
		is, _ := s.TryAcquire(task, n)
		l.ask(t, task, n, is, false)
	case 1:
		given, is := s.Leave(task)
		if is {
			l.goes(task)
		}
		l.take(t, given)
	case 2, 3:
		n = r.Int63n(min(s.Held(), top-2) + 2)
		given, e := s.Release(n)
		if e == api.OK {
			l.add(-n)
		}
		l.take(t, given)
	default:
		is, e := s.Acquire(task, n)
		l.ask(t, task, n, is, e == api.OK)
	}
}

// keeps makes long ways by a ledger, and asks at each step whether what is said holds.
func keeps(t *testing.T, holds func(*ledger, *sema.Sema) bool) {
	t.Helper()
	given := 0
	for seed := range int64(120) {
		r := rand.New(rand.NewSource(seed))
		room := []int64{0, 1, 6, 30, 1 << 50, top}[seed%6]
		s, l := made(t, 6, room), newLedger(room)
		for range 120 {
			l.step(t, r, s, 6)
			if !holds(l, s) {
				wants, doomed := s.Waiting()
				t.Fatalf("seed %d: %v of %v are held by what was told, %d of %d by what is kept; %v came, by %v; %v and %v wait",
					seed, l.held, l.room, s.Held(), s.Cap(), l.came, l.asked, wants, doomed)
			}
		}
		given += l.given
	}
	if given < 500 {
		t.Errorf("%d were given something only", given)
	}
}

// P13.4: what is held is from 0 to the room, and the sum of what was given, less what was released.
func TestHeldIsTheSum(t *testing.T) {
	keeps(t, func(l *ledger, s *sema.Sema) bool {
		return s.Held() >= 0 && s.Held() <= s.Cap() && big.NewInt(s.Held()).Cmp(l.held) == 0
	})
}

// P13.4: who comes first is given first, but those who leave; nobody is lost, and nobody waits who didn't come.
func TestWhoComesFirstIsGivenFirst(t *testing.T) {
	keeps(t, func(l *ledger, s *sema.Sema) bool {
		wants, doomed := s.Waiting()
		return slices.Equal(wants, l.came) && len(wants)+len(doomed) == len(l.asked)
	})
}

// P13.4: nobody waits first where it fits.
func TestNobodyWaitsFirstWhereItFits(t *testing.T) {
	keeps(t, func(l *ledger, s *sema.Sema) bool {
		wants, _ := s.Waiting()
		if len(wants) == 0 {
			return true
		}
		n, is := s.Wants(wants[0])
		return is && n == l.asked[wants[0]] && !l.fits(n)
	})
}

// P13.4, Words: who is doomed waits till it leaves, and is never given anything; who isn't, isn't told among those who are.
func TestDoomedWaitTillTheyLeave(t *testing.T) {
	keeps(t, func(l *ledger, s *sema.Sema) bool {
		_, doomed := s.Waiting()
		for _, task := range doomed {
			if !l.isDoomed(task) {
				return false
			}
		}
		for task, n := range l.asked {
			if kept, is := s.Wants(task); kept != n || !is || l.isDoomed(task) != slices.Contains(doomed, task) {
				return false
			}
		}
		return true
	})
	s := made(t, 3, 5)
	wantAcquire(t, s, 1, 6, false, api.OK)
	for range 10 {
		wantAcquire(t, s, 0, 5, true, api.OK)
		wantAcquire(t, s, 2, 5, false, api.OK)
		wantRelease(t, s, 5, api.OK, 2)
		wantRelease(t, s, 5, api.OK)
		stands(t, s, &model{3, 5, 0, nil, []want{{1, 6}}})
	}
}
