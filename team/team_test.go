package team_test

import (
	"math"
	"math/rand"
	"slices"
	"testing"

	"countermand/api"
	"countermand/team"
)

const (
	least = math.MinInt64
	top   = math.MaxInt64
)

// model is a team as plainly as the document says it: its limit (below 0: none), how many are at work, its first error, and its two rows.
type model struct {
	tasks, limit, active int
	first                int64
	callers, waiters     []int
}

func fresh(tasks int) *model { return &model{tasks: tasks, limit: -1} }

func (m *model) clone() *model {
	c := *m
	c.callers, c.waiters = slices.Clone(m.callers), slices.Clone(m.waiters)
	return &c
}

func (m *model) hasTask(t int) bool { return 0 <= t && t < m.tasks }

func (m *model) hasPlace() bool { return m.limit < 0 || m.active < m.limit }

func (m *model) waits(t int) bool {
	return slices.Contains(m.callers, t) || slices.Contains(m.waiters, t)
}

func (m *model) mayAsk(t int) api.Errno {
	switch {
	case !m.hasTask(t):
		return api.ErrName
	case m.waits(t):
		return api.ErrWaits
	}
	return api.OK
}

func (m *model) setLimit(n int) api.Errno {
	if m.active > 0 || len(m.callers) > 0 {
		return api.ErrBusy
	}
	m.limit = n
	if n < 0 {
		m.limit = -1
	}
	return api.OK
}

func (m *model) goes(t int) (bool, api.Errno) {
	if e := m.mayAsk(t); e != api.OK {
		return false, e
	}
	if m.tryGo() {
		return true, api.OK
	}
	m.callers = append(slices.Clone(m.callers), t)
	return false, api.OK
}

func (m *model) tryGo() bool {
	if !m.hasPlace() {
		return false
	}
	m.active++
	return true
}

func (m *model) end(err int64) (team.Ended, api.Errno) {
	if m.active == 0 {
		return team.Ended{}, api.ErrHeld
	}
	m.active--
	x := team.Ended{Caller: -1}
	if err != 0 && m.first == 0 {
		m.first, x.First = err, true
	}
	if len(m.callers) > 0 {
		x.Caller, m.callers = m.callers[0], m.callers[1:]
		m.active++
	}
	if m.active == 0 {
		x.Waiters, m.waiters = m.waiters, nil
	}
	return x, api.OK
}

func (m *model) wait(t int) (bool, api.Errno) {
	if e := m.mayAsk(t); e != api.OK {
		return false, e
	}
	if m.active == 0 {
		return true, api.OK
	}
	m.waiters = append(slices.Clone(m.waiters), t)
	return false, api.OK
}

func (m *model) leave(t int) bool {
	is := m.waits(t)
	m.callers, m.waiters = without(m.callers, t), without(m.waiters, t)
	return is
}

// without is a list without one of its numbers.
func without(list []int, t int) []int {
	return slices.DeleteFunc(slices.Clone(list), func(n int) bool { return n == t })
}

// make builds a team that stands as the model does.
func (m *model) make(t *testing.T) *team.Team {
	t.Helper()
	x := made(t, m.tasks)
	if m.first != 0 {
		wantTry(t, x, true)
		wantEnd(t, x, m.first, team.Ended{Caller: -1, First: true}, api.OK)
	}
	wantLimit(t, x, m.limit, api.OK)
	for range m.active {
		wantTry(t, x, true)
	}
	wantCallers(t, x, m.callers...)
	wantWaiters(t, x, m.waiters...)
	stands(t, x, m)
	return x
}

// outside are numbers of which there is no task, where there are so many.
func outside(many int) []int {
	return []int{
		-1, many, -2, many + 1, 999 + many, 1000 + many, 1 << 16, 1<<16 - 1, 1 << 32, 1<<32 + 1, -1 << 16, -1 << 32,
		math.MinInt, math.MinInt + 1, math.MaxInt, math.MaxInt - 1,
	}
}

func made(t *testing.T, tasks int) *team.Team {
	t.Helper()
	x, e := team.New(tasks)
	if x == nil || e != api.OK {
		t.Fatalf("New(%d) = %v, %d", tasks, x, e)
	}
	return x
}

func wantLimit(t *testing.T, x *team.Team, n int, want api.Errno) {
	t.Helper()
	if e := x.SetLimit(n); e != want {
		t.Errorf("SetLimit(%d) = %d, want %d", n, e, want)
	}
}

func wantGo(t *testing.T, x *team.Team, task int, begins bool, want api.Errno) {
	t.Helper()
	if is, e := x.Go(task); is != begins || e != want {
		t.Errorf("Go(%d) = %t, %d, want %t, %d", task, is, e, begins, want)
	}
}

func wantTry(t *testing.T, x *team.Team, begins bool) {
	t.Helper()
	if is := x.TryGo(); is != begins {
		t.Errorf("TryGo() = %t, want %t", is, begins)
	}
}

func wantEnd(t *testing.T, x *team.Team, err int64, is team.Ended, want api.Errno) {
	t.Helper()
	got, e := x.End(err)
	if got.Caller != is.Caller || !slices.Equal(got.Waiters, is.Waiters) || got.First != is.First || e != want {
		t.Errorf("End(%d) = %v, %d, want %v, %d", err, got, e, is, want)
	}
}

func wantWait(t *testing.T, x *team.Team, task int, idle bool, want api.Errno) {
	t.Helper()
	if is, e := x.Wait(task); is != idle || e != want {
		t.Errorf("Wait(%d) = %t, %d, want %t, %d", task, is, e, idle, want)
	}
}

func wantLeave(t *testing.T, x *team.Team, task int, want bool) {
	t.Helper()
	if is := x.Leave(task); is != want {
		t.Errorf("Leave(%d) = %t, want %t", task, is, want)
	}
}

// wantCallers lets these wait to begin, none of whom waits, of a team without a place.
func wantCallers(t *testing.T, x *team.Team, tasks ...int) {
	t.Helper()
	for _, n := range tasks {
		wantGo(t, x, n, false, api.OK)
	}
}

// wantWaiters lets these wait till nobody is at work, none of whom waits, of a team where somebody is.
func wantWaiters(t *testing.T, x *team.Team, tasks ...int) {
	t.Helper()
	for _, n := range tasks {
		wantWait(t, x, n, false, api.OK)
	}
}

// wantBoth asks for both things that a task may ask for, and is given neither.
func wantBoth(t *testing.T, x *team.Team, task int, want api.Errno) {
	t.Helper()
	wantGo(t, x, task, false, want)
	wantWait(t, x, task, false, want)
}

// stands holds all that a team tells against its model.
func stands(t *testing.T, x *team.Team, m *model) {
	t.Helper()
	if n := x.Limit(); n != m.limit {
		t.Errorf("Limit() = %d, want %d", n, m.limit)
	}
	if n := x.Active(); n != m.active {
		t.Errorf("Active() = %d, want %d", n, m.active)
	}
	if n := x.First(); n != m.first {
		t.Errorf("First() = %d, want %d", n, m.first)
	}
	if c, w := x.Waiting(); !slices.Equal(c, m.callers) || !slices.Equal(w, m.waiters) {
		t.Errorf("Waiting() = %v, %v, want %v, %v", c, w, m.callers, m.waiters)
	}
}

// The calls that change a team.
const (
	setLimit = iota
	goes
	tryGo
	end
	wait
	leave
)

// call is one of them, and what it is given: a limit, a task, or an error.
type call struct {
	what int
	n    int64
}

// do makes a call of a team and of its model, and holds what they answer, and how they stand then, against each other.
func do(t *testing.T, x *team.Team, m *model, c call) {
	t.Helper()
	n := int(c.n)
	switch c.what {
	case setLimit:
		wantLimit(t, x, n, m.setLimit(n))
	case goes:
		is, e := m.goes(n)
		wantGo(t, x, n, is, e)
	case tryGo:
		wantTry(t, x, m.tryGo())
	case end:
		is, e := m.end(c.n)
		wantEnd(t, x, c.n, is, e)
	case wait:
		is, e := m.wait(n)
		wantWait(t, x, n, is, e)
	case leave:
		wantLeave(t, x, n, m.leave(n))
	}
	stands(t, x, m)
}

// limits are those that a team may be given.
func limits() []int { return []int{math.MinInt, -2, -1, 0, 1, 2, 3, 1000, math.MaxInt} }

// errs are those that may come of an end.
func errs() []int64 {
	return []int64{0, 1, -1, 7, 8, 1 << 32, -1 << 32, least, least + 1, top - 1, top}
}

// callsOf are all calls that change a team which stands as the model does, be they right or wrong.
func callsOf(m *model) []call {
	all := []call{{tryGo, 0}, {end, 0}, {end, 5}, {end, least}}
	for _, n := range []int64{least, -1, 0, 1, int64(m.active) + 1, top} {
		all = append(all, call{setLimit, n})
	}
	for task := int64(-1); task <= int64(m.tasks); task++ {
		all = append(all, call{goes, task}, call{wait, task}, call{leave, task})
	}
	return all
}

// arrangements are all rows that these tasks can make, or some of them.
func arrangements(tasks int) [][]int {
	all := [][]int{nil}
	for from := 0; from < len(all); from++ {
		for n := range tasks {
			if row := all[from]; !slices.Contains(row, n) {
				all = append(all, append(slices.Clone(row), n))
			}
		}
	}
	return all
}

// teams are teams of so many tasks, whoever waits: as many are at work as may be, or fewer, or nobody; with a first error, or none.
func teams(tasks int) []*model {
	var all []*model
	for _, first := range []int64{0, 7} {
		for _, at := range []struct{ limit, active int }{
			{-1, 0}, {-1, 1}, {-1, 3}, {0, 0}, {1, 0}, {1, 1}, {2, 0}, {2, 1}, {2, 2}, {math.MaxInt, 0}, {math.MaxInt, 1}, {math.MaxInt, 3},
		} {
			for _, row := range arrangements(tasks) {
				for cut := range len(row) + 1 {
					m := &model{tasks, at.limit, at.active, first, row[:cut], row[cut:]}
					// Nobody waits to begin where there is a place, nor till nobody is at work where nobody is.
					if cut > 0 && m.hasPlace() || cut < len(row) && m.active == 0 {
						continue
					}
					all = append(all, m)
				}
			}
		}
	}
	return all
}

// The document's example.
func TestExample(t *testing.T) {
	x := made(t, 4)
	wantLimit(t, x, 1, api.OK)
	wantGo(t, x, 1, true, api.OK)
	wantGo(t, x, 2, false, api.OK)
	wantWait(t, x, 3, false, api.OK)
	wantEnd(t, x, 7, team.Ended{Caller: 2, First: true}, api.OK)
	stands(t, x, &model{4, 1, 1, 7, nil, []int{3}})
	wantEnd(t, x, 8, team.Ended{Caller: -1, Waiters: []int{3}}, api.OK)
	stands(t, x, &model{4, 1, 0, 7, nil, nil})
}

// P14.1: of each size that there may be, without a limit; just those tasks are there.
func TestNew(t *testing.T) {
	for _, tasks := range []int{1, 2, 3, 16, 255, 256, 257, 999, 1000} {
		x := made(t, tasks)
		stands(t, x, fresh(tasks))
		for _, n := range outside(tasks) {
			wantBoth(t, x, n, api.ErrName)
			wantLeave(t, x, n, false)
		}
		stands(t, x, fresh(tasks))
		for n := range tasks {
			wantWait(t, x, n, true, api.OK)
			wantLeave(t, x, n, false)
		}
		for n := range tasks {
			wantGo(t, x, n, true, api.OK)
		}
		for n := range tasks {
			wantWait(t, x, n, false, api.OK)
		}
		for _, n := range outside(tasks) {
			wantBoth(t, x, n, api.ErrName)
			wantLeave(t, x, n, false)
		}
		if _, w := x.Waiting(); len(w) != tasks || x.Active() != tasks {
			t.Errorf("of %d tasks %d wait, and %d are at work", tasks, len(w), x.Active())
		}
	}
}

// P14.1
func TestNewOfWrongSizes(t *testing.T) {
	for _, tasks := range []int{
		0, -1, -2, -1000, 1001, 1002, 2000, 1 << 16, 1<<16 + 1, 1 << 32, 1<<32 + 1, -1 << 32, math.MinInt, math.MinInt + 1, math.MaxInt,
	} {
		if x, e := team.New(tasks); x != nil || e != api.ErrArg {
			t.Errorf("New(%d) = %v, %d, want nil, %d", tasks, x, e, api.ErrArg)
		}
	}
}

// P14.1: a limit is told whole, and -1 for each that is none; the next one takes its place, or takes it away again.
func TestSetLimit(t *testing.T) {
	x, m := made(t, 3), fresh(3)
	for _, n := range append(limits(), -1, 5, 5, 0, math.MinInt+1, 1<<32, 1<<32+1, -1<<32, math.MaxInt-1, -1) {
		wantLimit(t, x, n, api.OK)
		m.limit = max(n, -1)
		for range 3 {
			stands(t, x, m)
		}
	}
	for _, a := range limits() {
		for _, b := range limits() {
			x, m := made(t, 3), fresh(3)
			do(t, x, m, call{setLimit, int64(a)})
			do(t, x, m, call{setLimit, int64(b)})
			for range 4 {
				do(t, x, m, call{tryGo, 0})
			}
		}
	}
}

// P14.1: while somebody is at work, or waits to begin, a limit stays as it is, whatever it would be, the same one too; and who
// waits goes on.
func TestSetLimitWhereItMayNotBe(t *testing.T) {
	seen := map[[3]bool]int{}
	for _, from := range teams(3) {
		x := from.make(t)
		if from.active == 0 && len(from.callers) == 0 {
			continue
		}
		seen[[3]bool{from.active > 0, len(from.callers) > 0, len(from.waiters) > 0}]++
		for _, n := range append(limits(), from.limit, from.active, from.active+1) {
			wantLimit(t, x, n, api.ErrBusy)
			stands(t, x, from)
		}
	}
	for _, kind := range [][3]bool{
		{true, false, false}, {true, true, false}, {true, false, true}, {true, true, true}, {false, true, false},
	} {
		if seen[kind] == 0 {
			t.Errorf("no team was asked of which at work, callers, waiters are %v", kind)
		}
	}
}

// P14.1: once nobody is at work and nobody waits to begin any more, a limit may be set again, whichever way they went.
func TestSetLimitAgain(t *testing.T) {
	x, m := made(t, 4), fresh(4)
	for _, c := range []call{
		{setLimit, 1}, {goes, 0}, {setLimit, 2}, {end, 0}, {setLimit, 0}, {goes, 1}, {goes, 2}, {setLimit, 1}, {leave, 1}, {setLimit, 1},
		{leave, 2}, {setLimit, 2}, {tryGo, 0}, {tryGo, 0}, {tryGo, 0}, {goes, 3}, {end, 4}, {end, 0}, {setLimit, -1}, {wait, 2},
		{end, 0}, {setLimit, -9}, {tryGo, 0}, {tryGo, 0}, {tryGo, 0}, {wait, 2}, {setLimit, 9}, {leave, 2}, {setLimit, 9}, {end, 0},
		{end, 0}, {end, 0}, {setLimit, 9},
	} {
		do(t, x, m, c)
	}
	stands(t, x, &model{4, 9, 0, 4, nil, nil})
}

// P14.1: how many are at work is told whole, and however often one asks; without a limit, and with the greatest one, many may be.
func TestActive(t *testing.T) {
	for _, limit := range []int{-1, math.MaxInt, 100000} {
		x := made(t, 1)
		wantLimit(t, x, limit, api.OK)
		for n := range 100000 {
			if is := x.TryGo(); !is || x.Active() != n+1 || x.Active() != n+1 {
				t.Fatalf("limit %d: %d should be at work, %d are, %t", limit, n+1, x.Active(), is)
			}
		}
		wantTry(t, x, limit != 100000)
		for n := x.Active(); n > 0; n-- {
			if is, e := x.End(0); e != api.OK || is.Caller != -1 || x.Active() != n-1 {
				t.Fatalf("limit %d: %d should be at work, %d are: %v, %d", limit, n-1, x.Active(), is, e)
			}
		}
		stands(t, x, &model{tasks: 1, limit: limit})
	}
}

// P14.1: both rows are told in the order in which their tasks came, not in that of their numbers, and go on waiting.
func TestWaiting(t *testing.T) {
	x, m := made(t, 9), fresh(9)
	for _, c := range []call{
		{setLimit, 1}, {goes, 0}, {wait, 7}, {goes, 5}, {goes, 8}, {wait, 2}, {goes, 1}, {wait, 3}, {goes, 0}, {wait, 4}, {goes, 6},
	} {
		do(t, x, m, c)
		for range 3 {
			stands(t, x, m)
		}
	}
	c, w := x.Waiting()
	if !slices.Equal(c, []int{5, 8, 1, 0, 6}) || !slices.Equal(w, []int{7, 2, 3, 4}) {
		t.Errorf("Waiting() = %v, %v", c, w)
	}
}

// P14.2: where there is a place, the last one too, one more is at work, by both calls; where there is none, who goes waits, and
// who tried doesn't.
func TestGo(t *testing.T) {
	for _, c := range []struct {
		limit, active int
		begins        bool
	}{
		{-1, 0, true}, {-1, 1, true}, {-1, 9, true},
		{0, 0, false},
		{1, 0, true}, {1, 1, false},
		{2, 0, true}, {2, 1, true}, {2, 2, false},
		{5, 0, true}, {5, 3, true}, {5, 4, true}, {5, 5, false},
		{1000, 999, true}, {1000, 1000, false},
		{math.MaxInt, 0, true}, {math.MaxInt, 1, true}, {math.MaxInt, 9, true},
	} {
		for _, waiters := range [][]int{nil, {3}, {3, 0}} {
			from := &model{tasks: 4, limit: c.limit, active: c.active}
			if c.active > 0 {
				from.waiters = waiters
			}
			to := from.clone()
			if c.begins {
				to.active++
			}
			x := from.make(t)
			wantTry(t, x, c.begins)
			stands(t, x, to)

			if !c.begins {
				to.callers = []int{1}
			}
			x = from.make(t)
			wantGo(t, x, 1, c.begins, api.OK)
			stands(t, x, to)
			wantLeave(t, x, 1, !c.begins)
			if t.Failed() {
				t.Fatalf("of %v, behind %v", c, waiters)
			}
		}
	}
}

// P14.2: a task of which there is none is told so, wherever there is a place or none, whoever is at work or waits.
func TestNoSuchTask(t *testing.T) {
	for _, from := range teams(2) {
		x := from.make(t)
		for _, n := range outside(2) {
			wantBoth(t, x, n, api.ErrName)
			wantLeave(t, x, n, false)
		}
		stands(t, x, from)
	}
}

// P14.2, P14.4: who waits, in either row, may ask for neither thing once more, be there a place or nobody at work meanwhile, or not.
func TestWaitsAlready(t *testing.T) {
	for _, from := range teams(3) {
		x := from.make(t)
		for range 2 {
			for _, n := range slices.Concat(from.callers, from.waiters) {
				wantBoth(t, x, n, api.ErrWaits)
			}
			stands(t, x, from)
		}
	}
	idle := &model{tasks: 3, limit: 0, callers: []int{2, 0}}
	x := idle.make(t)
	wantBoth(t, x, 2, api.ErrWaits)
	wantBoth(t, x, 0, api.ErrWaits)
	wantWait(t, x, 1, true, api.OK)
	stands(t, x, idle)
	free := &model{tasks: 3, limit: -1, active: 1, waiters: []int{1, 2}}
	x = free.make(t)
	wantBoth(t, x, 1, api.ErrWaits)
	wantBoth(t, x, 2, api.ErrWaits)
	stands(t, x, free)
	wantGo(t, x, 0, true, api.OK)
}

// P14.2: where callers wait already, who goes stands behind all of them, and who tries begins nothing and waits for nothing.
func TestGoBehindCallers(t *testing.T) {
	for _, from := range teams(4) {
		if len(from.callers) == 0 || len(from.callers)+len(from.waiters) == 4 {
			continue
		}
		x, m := from.make(t), from.clone()
		wantTry(t, x, false)
		stands(t, x, m)
		for n := range 4 {
			if m.waits(n) {
				continue
			}
			wantGo(t, x, n, false, api.OK)
			m.callers = append(m.callers, n)
			wantTry(t, x, false)
			stands(t, x, m)
		}
	}
}

// P14.2: who is at work isn't kept: whoever has begun may begin once more, wait to begin, and wait till nobody is at work.
func TestWhoIsAtWorkMayAsk(t *testing.T) {
	x := made(t, 2)
	wantLimit(t, x, 2, api.OK)
	wantGo(t, x, 1, true, api.OK)
	wantGo(t, x, 1, true, api.OK)
	wantGo(t, x, 1, false, api.OK)
	wantWait(t, x, 0, false, api.OK)
	stands(t, x, &model{2, 2, 2, 0, []int{1}, []int{0}})
	wantEnd(t, x, 0, team.Ended{Caller: 1}, api.OK)
	wantWait(t, x, 1, false, api.OK)
	wantEnd(t, x, 0, team.Ended{Caller: -1}, api.OK)
	wantEnd(t, x, 0, team.Ended{Caller: -1, Waiters: []int{0, 1}}, api.OK)
}

// P14.3: where nobody is at work nothing ends, whatever comes of it, and whoever waits to begin; no error is kept.
func TestEndWhereNobodyIsAtWork(t *testing.T) {
	for _, from := range teams(3) {
		if from.active > 0 {
			continue
		}
		x := from.make(t)
		for _, n := range errs() {
			wantEnd(t, x, n, team.Ended{}, api.ErrHeld)
			stands(t, x, from)
		}
	}
	x := made(t, 2)
	wantGo(t, x, 0, true, api.OK)
	wantEnd(t, x, 0, team.Ended{Caller: -1}, api.OK)
	wantEnd(t, x, 6, team.Ended{}, api.ErrHeld)
	stands(t, x, fresh(2))
}

// P14.3: the first error that isn't 0 is kept, whole, and told to be the first one; none that comes behind it is.
func TestFirstError(t *testing.T) {
	for _, a := range errs() {
		for _, b := range errs() {
			for _, c := range errs() {
				x, m := made(t, 1), fresh(1)
				for range 4 {
					do(t, x, m, call{tryGo, 0})
				}
				for _, n := range []int64{a, b, 0, c} {
					do(t, x, m, call{end, n})
				}
				if first := x.First(); first != firstOf(a, b, c) {
					t.Fatalf("of %d, %d, %d the first error is %d", a, b, c, first)
				}
			}
		}
	}
}

// firstOf is the first number that isn't 0, or 0.
func firstOf(of ...int64) int64 {
	for _, n := range of {
		if n != 0 {
			return n
		}
	}
	return 0
}

// P14.3: an error is the first one, or isn't, whether a caller begins then, waiters are told, or neither.
func TestFirstErrorWhoeverWaits(t *testing.T) {
	for _, from := range teams(3) {
		if from.active == 0 {
			continue
		}
		for _, n := range errs() {
			x := from.make(t)
			is, e := x.End(n)
			if e != api.OK || is.First != (n != 0 && from.first == 0) || x.First() != firstOf(from.first, n) {
				t.Errorf("%v: End(%d) = %v, %d; the first error is %d", from, n, is, e, x.First())
			}
		}
	}
}

// P14.3: a caller begins at each end, the first one first, and as many are at work as before; when there is none any more, one less is.
func TestCallersBegin(t *testing.T) {
	for _, limit := range []int{1, 2, 5} {
		from := &model{tasks: 7, limit: limit, active: limit, callers: []int{4, 0, 6, 1}, waiters: []int{3, 5}}
		x, m := from.make(t), from.clone()
		for i, n := range from.callers {
			wantEnd(t, x, 0, team.Ended{Caller: n}, api.OK)
			m.callers = from.callers[i+1:]
			stands(t, x, m)
			wantTry(t, x, false)
		}
		for active := limit - 1; active > 0; active-- {
			wantEnd(t, x, 0, team.Ended{Caller: -1}, api.OK)
			m.active = active
			stands(t, x, m)
		}
		wantEnd(t, x, 0, team.Ended{Caller: -1, Waiters: []int{3, 5}}, api.OK)
		stands(t, x, &model{tasks: 7, limit: limit})
	}
}

// P14.3: where no caller waits, Caller is -1, also where task 0 is there and waits till nobody is at work.
func TestNoCaller(t *testing.T) {
	for _, waiters := range [][]int{nil, {0}, {0, 1}, {1, 0}} {
		for _, limit := range []int{-1, 2, 3, math.MaxInt} {
			from := &model{tasks: 2, limit: limit, active: 2, waiters: waiters}
			x := from.make(t)
			wantEnd(t, x, 0, team.Ended{Caller: -1}, api.OK)
			wantEnd(t, x, 0, team.Ended{Caller: -1, Waiters: waiters}, api.OK)
			stands(t, x, &model{tasks: 2, limit: limit})
			wantEnd(t, x, 0, team.Ended{}, api.ErrHeld)
		}
	}
}

// P14.3: all waiters are told, in order, when nobody is at work; not by the end of one of several, nor by one behind whom a caller begins.
func TestWaitersAreTold(t *testing.T) {
	told := 0
	for _, from := range teams(4) {
		x, m := from.make(t), from.clone()
		for m.active > 0 {
			ends := m.active + len(m.callers)
			is, e := x.End(0)
			m.end(0)
			if e != api.OK || ends > 1 && len(is.Waiters) > 0 || ends == 1 && !slices.Equal(is.Waiters, from.waiters) {
				t.Errorf("%v: with %d to end, End(0) = %v, %d", from, ends, is, e)
			}
			told += len(is.Waiters)
			stands(t, x, m)
		}
		for _, n := range from.waiters {
			wantLeave(t, x, n, false)
		}
	}
	if told < 100 {
		t.Errorf("%d were told only", told)
	}
}

// P14.4: where nobody is at work whoever asks is told so, and doesn't wait, however often, and though somebody waits to begin.
func TestWaitWhereNobodyIsAtWork(t *testing.T) {
	for _, from := range teams(3) {
		if from.active > 0 {
			continue
		}
		x := from.make(t)
		for range 2 {
			for n := range 3 {
				if !from.waits(n) {
					wantWait(t, x, n, true, api.OK)
				}
			}
			stands(t, x, from)
		}
	}
}

// P14.4: where somebody is at work who asks waits behind all, and begins nothing, be there a place or none.
func TestWaitWhereSomebodyIsAtWork(t *testing.T) {
	for _, from := range teams(3) {
		if from.active == 0 {
			continue
		}
		x, m := from.make(t), from.clone()
		for _, n := range []int{2, 0, 1} {
			if !m.waits(n) {
				wantWait(t, x, n, false, api.OK)
				m.waiters = append(m.waiters, n)
				stands(t, x, m)
			}
		}
	}
}

// P14.4: who leaves, whichever place it has in either row, waits no more, and all others stay as they were; who doesn't wait,
// or is no task, leaves nothing.
func TestLeave(t *testing.T) {
	for _, from := range teams(3) {
		for n := -2; n <= 4; n++ {
			x, m := from.make(t), from.clone()
			waits := slices.Contains(from.callers, n) || slices.Contains(from.waiters, n)
			wantLeave(t, x, n, waits)
			m.callers, m.waiters = without(from.callers, n), without(from.waiters, n)
			stands(t, x, m)
			wantLeave(t, x, n, false)
			stands(t, x, m)
		}
	}
}

// P14.4: first, last, between others and alone, of long rows of both kinds.
func TestLeaveOfLongRows(t *testing.T) {
	from := &model{tasks: 12, limit: 2, active: 2, callers: []int{9, 2, 5, 0, 7}, waiters: []int{11, 1, 8, 3, 4}}
	for _, order := range [][]int{{9, 7, 5, 2, 0}, {0, 2, 5, 7, 9}, {7, 0, 5, 2, 9}, {11, 4, 8, 1, 3}, {3, 8, 1, 11, 4}, {8, 5, 1, 0, 11, 9, 4, 7, 3, 2}} {
		x, m := from.make(t), from.clone()
		for _, n := range order {
			wantLeave(t, x, n, true)
			m.callers, m.waiters = without(m.callers, n), without(m.waiters, n)
			stands(t, x, m)
		}
		for len(m.callers) > 0 {
			do(t, x, m, call{end, 0})
		}
		do(t, x, m, call{end, 0})
		do(t, x, m, call{end, 0})
		stands(t, x, &model{tasks: 12, limit: 2})
	}
}

// P14.4: who has begun, or was told, doesn't wait any more, and so leaves nothing.
func TestLeaveBehindBeginningAndBeingTold(t *testing.T) {
	x := (&model{tasks: 5, limit: 1, active: 1, callers: []int{3, 1}, waiters: []int{0, 4}}).make(t)
	wantEnd(t, x, 0, team.Ended{Caller: 3}, api.OK)
	wantLeave(t, x, 3, false)
	stands(t, x, &model{5, 1, 1, 0, []int{1}, []int{0, 4}})
	wantLeave(t, x, 1, true)
	wantEnd(t, x, 0, team.Ended{Caller: -1, Waiters: []int{0, 4}}, api.OK)
	for n := range 5 {
		wantLeave(t, x, n, false)
	}
	wantGo(t, x, 2, true, api.OK)
	wantLeave(t, x, 2, false)
	stands(t, x, &model{tasks: 5, limit: 1, active: 1})
}

// P14.2, P14.4: who leaves one row may stand in either one again, behind those who came meanwhile.
func TestWaitsAgainBehindLeave(t *testing.T) {
	x, m := (&model{tasks: 6, limit: 1, active: 1, callers: []int{0, 1}, waiters: []int{2, 3}}).make(t),
		&model{tasks: 6, limit: 1, active: 1, callers: []int{0, 1}, waiters: []int{2, 3}}
	for _, c := range []call{
		{leave, 0}, {goes, 4}, {goes, 0}, {goes, 0}, {leave, 2}, {wait, 5}, {wait, 2}, {wait, 2}, {leave, 1}, {wait, 1}, {goes, 1},
		{leave, 3}, {goes, 3}, {wait, 3},
	} {
		do(t, x, m, c)
	}
	stands(t, x, &model{6, 1, 1, 0, []int{4, 0, 3}, []int{5, 2, 1}})
	for _, n := range []int{4, 0, 3} {
		wantEnd(t, x, 0, team.Ended{Caller: n}, api.OK)
	}
	wantEnd(t, x, 0, team.Ended{Caller: -1, Waiters: []int{5, 2, 1}}, api.OK)
}

// P14.2 to P14.4: who has begun, and who was told, may wait again, in either row.
func TestWaitsAgainBehindBeginningAndBeingTold(t *testing.T) {
	x, m := made(t, 4), fresh(4)
	do(t, x, m, call{setLimit, 1})
	for i := range int64(12) {
		a, b, c := i%4, (i+1)%4, (i+2)%4
		for _, step := range []call{
			{goes, a}, {goes, a}, {wait, b}, {goes, c}, {end, i - 6}, {goes, a}, {wait, a}, {goes, c}, {end, 0}, {end, 0}, {wait, a}, {end, 0},
			{end, 1}, {wait, b}, {leave, b},
		} {
			do(t, x, m, step)
		}
		stands(t, x, &model{tasks: 4, limit: 1, first: m.first})
	}
}

// spoil changes a list that was told, and what stands behind it.
func spoil(list []int) {
	for i := range list {
		list[i] = 77
	}
	_ = append(list, 77, 78)
	_ = append(list[:0], 79)
	all := list[:cap(list)]
	for i := range all {
		all[i] = 80
	}
}

// P14.1, P14.3: a list that was told is the asker's own: whoever changes it changes nothing that is kept.
func TestListsAreNew(t *testing.T) {
	for _, from := range teams(3) {
		x, m := from.make(t), from.clone()
		for range 2 {
			c, w := x.Waiting()
			spoil(c)
			stands(t, x, m)
			spoil(w)
			stands(t, x, m)
		}
		for m.active > 0 {
			is, _ := x.End(0)
			m.end(0)
			spoil(is.Waiters)
			stands(t, x, m)
		}
		if m.limit == 0 {
			continue
		}
		do(t, x, m, call{tryGo, 0})
		for n := range int64(3) {
			do(t, x, m, call{wait, n})
		}
	}
}

// P14.1, P14.3: a list that was told stays as it was, whatever is done later, and has nothing in common with another one.
func TestListsStay(t *testing.T) {
	x := (&model{tasks: 8, limit: 1, active: 1, callers: []int{3, 1}, waiters: []int{6, 0, 5}}).make(t)
	c1, w1 := x.Waiting()
	c2, w2 := x.Waiting()
	spoil(c2)
	spoil(w2)
	x.Leave(0)
	x.End(4)
	wantCallers(t, x, 7)
	wantWaiters(t, x, 2)
	c3, w3 := x.Waiting()
	x.End(0)
	x.End(0)
	told, _ := x.End(0)
	wantTry(t, x, true)
	wantWaiters(t, x, 7, 6, 5, 4, 3, 2, 1, 0)
	again, _ := x.End(0)
	lists := []struct{ is, was []int }{
		{c1, []int{3, 1}}, {w1, []int{6, 0, 5}}, {c3, []int{1, 7}}, {w3, []int{6, 5, 2}}, {told.Waiters, []int{6, 5, 2}},
		{again.Waiters, []int{7, 6, 5, 4, 3, 2, 1, 0}},
	}
	for i, list := range lists {
		if !slices.Equal(list.is, list.was) {
			t.Errorf("list %d that was told as %v is %v now", i, list.was, list.is)
		}
		spoil(list.is)
	}
	stands(t, x, &model{tasks: 8, limit: 1, first: 4})
}

// P14.1: two teams have nothing in common: who waits for one may wait for the other one.
func TestTeamsAreApart(t *testing.T) {
	a := (&model{tasks: 3, limit: 1, active: 1, first: 9, callers: []int{2}, waiters: []int{0, 1}}).make(t)
	b := made(t, 3)
	stands(t, b, fresh(3))
	wantWait(t, b, 2, true, api.OK)
	wantGo(t, b, 2, true, api.OK)
	wantGo(t, b, 0, true, api.OK)
	wantWaiters(t, b, 0, 2, 1)
	wantEnd(t, a, 5, team.Ended{Caller: 2}, api.OK)
	wantEnd(t, a, 5, team.Ended{Caller: -1, Waiters: []int{0, 1}}, api.OK)
	stands(t, a, &model{tasks: 3, limit: 1, first: 9})
	stands(t, b, &model{tasks: 3, limit: -1, active: 2, waiters: []int{0, 2, 1}})
	wantEnd(t, b, 6, team.Ended{Caller: -1, First: true}, api.OK)
	stands(t, a, &model{tasks: 3, limit: 1, first: 9})
}

// P14.1 to P14.4 of a team with one task alone.
func TestOneTask(t *testing.T) {
	x, m := made(t, 1), fresh(1)
	for _, c := range []call{
		{wait, 0}, {wait, 1}, {goes, 1}, {leave, 0}, {end, 3}, {setLimit, 1}, {goes, 0}, {goes, 0}, {goes, 0}, {wait, 0}, {tryGo, 0}, {leave, 0},
		{wait, 0}, {goes, 0}, {wait, 0}, {end, 0}, {goes, 0}, {goes, 0}, {end, 2}, {wait, 0}, {end, 3}, {leave, 0}, {setLimit, 0}, {goes, 0},
		{wait, 0}, {end, 0}, {setLimit, 1}, {leave, 0}, {wait, 0}, {setLimit, -1}, {goes, 0}, {goes, 0}, {wait, 0}, {goes, 0}, {end, 0}, {end, 0},
	} {
		do(t, x, m, c)
	}
	stands(t, x, &model{tasks: 1, limit: -1, first: 2})
}

// P14.1 to P14.4 of a team that may do nothing: whoever goes waits till it leaves, and nobody is ever at work.
func TestLimitOfNothing(t *testing.T) {
	x := made(t, 4)
	wantLimit(t, x, 0, api.OK)
	wantTry(t, x, false)
	wantCallers(t, x, 3, 0, 2)
	wantTry(t, x, false)
	wantBoth(t, x, 0, api.ErrWaits)
	wantWait(t, x, 1, true, api.OK)
	wantEnd(t, x, 0, team.Ended{}, api.ErrHeld)
	wantLimit(t, x, 0, api.ErrBusy)
	wantLimit(t, x, -1, api.ErrBusy)
	stands(t, x, &model{tasks: 4, callers: []int{3, 0, 2}})
	wantLeave(t, x, 0, true)
	wantLeave(t, x, 3, true)
	wantLeave(t, x, 2, true)
	wantLimit(t, x, -1, api.OK)
	wantGo(t, x, 3, true, api.OK)
}

// P14.1 to P14.4 at the greatest size: half of all wait to begin, the others wait till nobody is at work, every third one
// leaves, some come back, and the rest begins, and is told; once more.
func TestGreatest(t *testing.T) {
	x, m := made(t, 1000), fresh(1000)
	for round := range int64(2) {
		do(t, x, m, call{setLimit, 30 + round})
		for range 31 + round {
			do(t, x, m, call{tryGo, 0})
		}
		for i := range int64(1000) {
			what := goes
			if i%2 == round {
				what = wait
			}
			do(t, x, m, call{what, i * 7 % 1000})
		}
		for n := int64(0); n < 1000; n += 3 {
			do(t, x, m, call{leave, n})
		}
		for n := int64(0); n < 1000; n += 6 {
			do(t, x, m, call{goes, n})
			do(t, x, m, call{wait, n + 3})
		}
		for i := int64(0); m.active > 0; i++ {
			do(t, x, m, call{end, i - 300})
		}
		do(t, x, m, call{end, 1})
	}
	stands(t, x, &model{tasks: 1000, limit: 31, first: -300})
}

// P14.3: all tasks that there may be begin, one behind the other, and all of them are told at once.
func TestAllBeginAndAllAreTold(t *testing.T) {
	var row []int
	for i := range 1000 {
		row = append(row, (i*7+500)%1000)
	}
	x := (&model{tasks: 1000, limit: 1, active: 1, callers: row}).make(t)
	for _, n := range row {
		wantEnd(t, x, 0, team.Ended{Caller: n}, api.OK)
	}
	stands(t, x, &model{tasks: 1000, limit: 1, active: 1})
	wantWaiters(t, x, row...)
	wantEnd(t, x, 0, team.Ended{Caller: -1, Waiters: row}, api.OK)
	stands(t, x, &model{tasks: 1000, limit: 1})
}

// P14.1 to P14.4: whatever is called, be it right or wrong, of small teams, however they stand, and what each one says of every
// call that comes then.
func TestEveryTwoCallsOfSmallTeams(t *testing.T) {
	for tasks := 1; tasks <= 3; tasks++ {
		for _, from := range teams(tasks) {
			everyTwoCalls(t, from)
		}
	}
}

func everyTwoCalls(t *testing.T, from *model) {
	t.Helper()
	for _, first := range callsOf(from) {
		then := from.clone()
		do(t, from.make(t), then, first)
		for _, second := range callsOf(then) {
			x, m := from.make(t), from.clone()
			do(t, x, m, first)
			do(t, x, m, second)
			if t.Failed() {
				t.Fatalf("%v, then call %v, then %v", *from, first, second)
			}
		}
	}
}

// P14.2 to P14.5: what has an error changes nothing, and beside it every other result is its zero value.
func TestErrorsChangeNothing(t *testing.T) {
	wrong := 0
	for _, from := range teams(3) {
		x := from.make(t)
		for _, c := range callsOf(from) {
			if e := errorOf(from, c); e != api.OK {
				do(t, x, from.clone(), c)
				stands(t, x, from)
				wrong++
			}
		}
	}
	if wrong < 1000 {
		t.Errorf("%d calls were wrong only", wrong)
	}
}

// errorOf is the error that a call has of a team which stands as the model does.
func errorOf(m *model, c call) api.Errno {
	m = m.clone()
	e := api.OK
	switch c.what {
	case setLimit:
		e = m.setLimit(int(c.n))
	case goes:
		_, e = m.goes(int(c.n))
	case end:
		_, e = m.end(c.n)
	case wait:
		_, e = m.wait(int(c.n))
	}
	return e
}

// someCall is a call that changes a team, often one that is right.
func someCall(r *rand.Rand, m *model) call {
	task := int64(r.Intn(m.tasks+2) - 1)
	switch r.Intn(14) {
	case 0:
		return call{setLimit, int64(r.Intn(7) - 2)}
	case 1:
		all := limits()
		return call{setLimit, int64(all[r.Intn(len(all))])}
	case 2:
		all := errs()
		return call{end, all[r.Intn(len(all))]}
	case 3, 4, 5, 6:
		return call{end, 0}
	case 7, 8:
		return call{wait, task}
	case 9:
		return call{leave, task}
	case 10:
		return call{tryGo, 0}
	}
	return call{goes, task}
}

// P14.1 to P14.4: long ways, on which nothing is left of what was.
func TestLongWays(t *testing.T) {
	for seed := range int64(100) {
		r := rand.New(rand.NewSource(seed))
		m := fresh(1 + r.Intn(10))
		x := made(t, m.tasks)
		for range 600 {
			c := someCall(r, m)
			do(t, x, m, c)
			if t.Failed() {
				t.Fatalf("seed %d: call %v", seed, c)
			}
		}
	}
}

// ledger is what is known of a team by what its calls answered, and not by what it tells of itself.
type ledger struct {
	limit, active    int
	first            int64
	callers, waiters []int // who came to either row, and neither left nor was taken out, in order
	began, told      int   // how many did of those who waited
}

// step makes some call of a team, takes in what it answered, and tells what is wrong with that.
func (l *ledger) step(r *rand.Rand, x *team.Team, tasks int) string {
	n := r.Intn(tasks)
	switch r.Intn(12) {
	case 0:
		limit := r.Intn(5) - 1
		if x.SetLimit(limit) == api.OK {
			l.limit = limit
		}
	case 1:
		if x.TryGo() {
			l.active++
		}
	case 2:
		if x.Leave(n) {
			l.callers, l.waiters = without(l.callers, n), without(l.waiters, n)
		}
	case 3, 4:
		if idle, e := x.Wait(n); e == api.OK && !idle {
			l.waiters = append(l.waiters, n)
		}
	case 5, 6, 7:
		err := int64(r.Intn(3) * (r.Intn(9) - 4))
		if is, e := x.End(err); e == api.OK {
			return l.end(is, err)
		}
	default:
		begins, e := x.Go(n)
		switch {
		case begins && len(l.callers) > 0:
			return "one begins ahead of those who came"
		case begins:
			l.active++
		case e == api.OK:
			l.callers = append(l.callers, n)
		}
	}
	return ""
}

// end takes in what an end answered.
func (l *ledger) end(is team.Ended, err int64) string {
	l.active--
	if is.First != (l.first == 0 && err != 0) {
		return "another error is told to be the first one"
	}
	if is.First {
		l.first = err
	}
	if is.Caller == -1 && len(l.callers) > 0 {
		return "nobody begins, and somebody waits to"
	}
	if is.Caller != -1 {
		if len(l.callers) == 0 || l.callers[0] != is.Caller {
			return "one begins that didn't come first"
		}
		l.callers = l.callers[1:]
		l.active++
		l.began++
	}
	if l.active > 0 && len(is.Waiters) > 0 {
		return "waiters are told too early"
	}
	if l.active == 0 {
		if !slices.Equal(is.Waiters, l.waiters) {
			return "others are told than those who waited"
		}
		l.told += len(l.waiters)
		l.waiters = nil
	}
	return ""
}

// keeps makes long ways by a ledger, and asks at each step whether what is said holds.
func keeps(t *testing.T, holds func(*ledger, *team.Team) bool) {
	t.Helper()
	began, told := 0, 0
	for seed := range int64(150) {
		r := rand.New(rand.NewSource(seed))
		x, l := made(t, 6), &ledger{limit: -1}
		for range 150 {
			if wrong := l.step(r, x, 6); wrong != "" || !holds(l, x) {
				c, w := x.Waiting()
				t.Fatalf("seed %d: %s; by what was told %v; %d of %d are at work, first error %d, and %v and %v wait",
					seed, wrong, *l, x.Active(), x.Limit(), x.First(), c, w)
			}
		}
		began, told = began+l.began, told+l.told
	}
	if began < 500 || told < 500 {
		t.Errorf("%d began, and %d were told only", began, told)
	}
}

// P14.5: never more are at work than the limit says, and they are as many as began, less those that are through.
func TestNeverMoreThanTheLimit(t *testing.T) {
	full := 0
	keeps(t, func(l *ledger, x *team.Team) bool {
		if l.limit > 0 && l.active == l.limit {
			full++
		}
		return (l.limit < 0 || l.active <= l.limit) && l.active >= 0 && x.Active() == l.active && x.Limit() == l.limit
	})
	if full < 1000 {
		t.Errorf("as many were at work as may be %d times only", full)
	}
}

// P14.5: callers begin in the order in which they came, but those who left; nobody is lost, and nobody waits to begin who didn't
// come, or where there is a place.
func TestCallersBeginInOrder(t *testing.T) {
	keeps(t, func(l *ledger, x *team.Team) bool {
		c, _ := x.Waiting()
		return slices.Equal(c, l.callers) && (len(c) == 0 || x.Active() == x.Limit())
	})
}

// P14.5: the first error stays.
func TestFirstErrorStays(t *testing.T) {
	was := map[*team.Team]int64{}
	keeps(t, func(l *ledger, x *team.Team) bool {
		first := x.First()
		stays := was[x] == 0 || was[x] == first
		was[x] = first
		return stays && first == l.first
	})
	for _, n := range errs() {
		if n == 0 {
			continue
		}
		x := made(t, 2)
		wantTry(t, x, true)
		wantEnd(t, x, n, team.Ended{Caller: -1, First: true}, api.OK)
		for _, limit := range limits() {
			wantLimit(t, x, limit, api.OK)
			for _, other := range errs() {
				if x.TryGo() {
					wantEnd(t, x, other, team.Ended{Caller: -1}, api.OK)
				}
				if first := x.First(); first != n {
					t.Fatalf("the first error was %d, and is %d", n, first)
				}
			}
		}
	}
}

// P14.5: waiters are told when nobody is at work, all of them, in order, and not earlier; nobody waits so where nobody is at work.
func TestWaitersAreToldWhenNobodyIsAtWork(t *testing.T) {
	keeps(t, func(l *ledger, x *team.Team) bool {
		_, w := x.Waiting()
		return slices.Equal(w, l.waiters) && (len(w) == 0 || x.Active() > 0)
	})
}
