package waits_test

import (
	"math"
	"math/big"
	"math/rand"
	"slices"
	"testing"

	"countermand/api"
	"countermand/waits"
)

const (
	least = math.MinInt64
	top   = math.MaxInt64
)

// model is a group as plainly as the document says it: a count, and a list of those who wait.
type model struct {
	tasks int
	count int64
	row   []int
}

func group(tasks int, count int64, row ...int) *model { return &model{tasks, count, row} }

func (m *model) clone() *model { return &model{m.tasks, m.count, slices.Clone(m.row)} }

func (m *model) hasTask(t int) bool { return 0 <= t && t < m.tasks }

// sum adds two numbers that have no ends, and tells whether the sum is below 0, or more than a count may be.
func sum(a, b int64) (s int64, below, above bool) {
	n := new(big.Int).Add(big.NewInt(a), big.NewInt(b))
	if n.Sign() < 0 || n.Cmp(big.NewInt(top)) > 0 {
		return 0, n.Sign() < 0, n.Sign() > 0
	}
	return n.Int64(), false, false
}

func (m *model) add(n int64) ([]int, api.Errno) {
	s, below, above := sum(m.count, n)
	switch {
	case below:
		return nil, api.ErrArg
	case above:
		return nil, api.ErrFull
	}
	m.count = s
	if s > 0 {
		return nil, api.OK
	}
	told := m.row
	m.row = nil
	return told, api.OK
}

func (m *model) wait(t int) (bool, api.Errno) {
	switch {
	case !m.hasTask(t):
		return false, api.ErrName
	case slices.Contains(m.row, t):
		return false, api.ErrWaits
	case m.count == 0:
		return true, api.OK
	}
	m.row = append(slices.Clone(m.row), t)
	return false, api.OK
}

func (m *model) leave(t int) bool {
	if !slices.Contains(m.row, t) {
		return false
	}
	m.row = without(m.row, t)
	return true
}

// without is a list without one of its numbers.
func without(list []int, t int) []int {
	return slices.DeleteFunc(slices.Clone(list), func(n int) bool { return n == t })
}

// make builds a group that stands as the model does.
func (m *model) make(t *testing.T) *waits.Group {
	t.Helper()
	g := made(t, m.tasks)
	wantAdd(t, g, m.count, api.OK)
	for _, n := range m.row {
		wantWait(t, g, n, false, api.OK)
	}
	stands(t, g, m)
	return g
}

// outside are numbers of which there is no task, where there are so many.
func outside(many int) []int {
	return []int{
		-1, many, -2, many + 1, 999 + many, 1000 + many, 1 << 16, 1<<16 - 1, 1 << 32, 1<<32 + 1, -1 << 16, -1 << 32,
		math.MinInt, math.MinInt + 1, math.MaxInt, math.MaxInt - 1,
	}
}

func made(t *testing.T, tasks int) *waits.Group {
	t.Helper()
	g, e := waits.New(tasks)
	if g == nil || e != api.OK {
		t.Fatalf("New(%d) = %v, %d", tasks, g, e)
	}
	return g
}

func wantAdd(t *testing.T, g *waits.Group, n int64, want api.Errno, told ...int) {
	t.Helper()
	if l, e := g.Add(n); !slices.Equal(l, told) || e != want {
		t.Errorf("Add(%d) = %v, %d, want %v, %d", n, l, e, told, want)
	}
}

func wantDone(t *testing.T, g *waits.Group, want api.Errno, told ...int) {
	t.Helper()
	if l, e := g.Done(); !slices.Equal(l, told) || e != want {
		t.Errorf("Done() = %v, %d, want %v, %d", l, e, told, want)
	}
}

func wantWait(t *testing.T, g *waits.Group, n int, through bool, want api.Errno) {
	t.Helper()
	if is, e := g.Wait(n); is != through || e != want {
		t.Errorf("Wait(%d) = %t, %d, want %t, %d", n, is, e, through, want)
	}
}

func wantLeave(t *testing.T, g *waits.Group, n int, want bool) {
	t.Helper()
	if is := g.Leave(n); is != want {
		t.Errorf("Leave(%d) = %t, want %t", n, is, want)
	}
}

// wantWaits lets these wait, none of whom does, of a group whose count isn't 0.
func wantWaits(t *testing.T, g *waits.Group, tasks ...int) {
	t.Helper()
	for _, n := range tasks {
		wantWait(t, g, n, false, api.OK)
	}
}

// wantLeaves lets these leave, all of whom wait.
func wantLeaves(t *testing.T, g *waits.Group, tasks ...int) {
	t.Helper()
	for _, n := range tasks {
		wantLeave(t, g, n, true)
	}
}

// stands holds all that a group tells against its model.
func stands(t *testing.T, g *waits.Group, m *model) {
	t.Helper()
	if n := g.Count(); n != m.count {
		t.Errorf("Count() = %d, want %d", n, m.count)
	}
	if l := g.Waiting(); !slices.Equal(l, m.row) {
		t.Errorf("Waiting() = %v, want %v", l, m.row)
	}
}

// The calls that change a group.
const (
	add = iota
	done
	wait
	leave
)

// call is one of them, and what it is given: a number that is added, or a task.
type call struct {
	what int
	n    int64
}

// do makes a call of a group and of its model, and holds what they answer, and how they stand then, against each other.
func do(t *testing.T, g *waits.Group, m *model, c call) {
	t.Helper()
	switch c.what {
	case add:
		told, e := m.add(c.n)
		wantAdd(t, g, c.n, e, told...)
	case done:
		told, e := m.add(-1)
		wantDone(t, g, e, told...)
	case wait:
		through, e := m.wait(int(c.n))
		wantWait(t, g, int(c.n), through, e)
	case leave:
		wantLeave(t, g, int(c.n), m.leave(int(c.n)))
	}
	stands(t, g, m)
}

// numbers are those to add that bring a count to an edge, or beside one.
func numbers(count int64) []int64 {
	all := []int64{
		0, 1, -1, 2, -2, top, top - 1, least, least + 1, 1 << 32, -1 << 32,
		-count, -count - 1, 1 - count, top - count, top - count - 1,
	}
	if count > 0 {
		all = append(all, top-count+1)
	}
	slices.Sort(all)
	return slices.Compact(all)
}

// callsOf are all calls that change a group which stands as the model does, be they right or wrong.
func callsOf(m *model) []call {
	all := []call{{done, 0}}
	for _, n := range numbers(m.count) {
		all = append(all, call{add, n})
	}
	for n := -1; n <= m.tasks; n++ {
		all = append(all, call{wait, int64(n)}, call{leave, int64(n)})
	}
	return all
}

// arrangements are all rows that these tasks can make, or some of them.
func arrangements(tasks int) [][]int {
	all := [][]int{nil}
	for from := 0; from < len(all); from++ {
		for n := range tasks {
			if row := all[from]; !slices.Contains(row, n) {
				all = append(all, append(slices.Clone(row), n))
			}
		}
	}
	return all
}

// counted are all groups of so many tasks whose count is at an edge above 0, or beside one, whoever waits.
func counted(tasks int) []*model {
	var all []*model
	for _, row := range arrangements(tasks) {
		for _, count := range []int64{1, 2, 3, top - 1, top} {
			all = append(all, group(tasks, count, row...))
		}
	}
	return all
}

// groups are those, and the one whose count is 0.
func groups(tasks int) []*model { return append(counted(tasks), group(tasks, 0)) }

// The document's example.
func TestExample(t *testing.T) {
	g := made(t, 4)
	wantAdd(t, g, 2, api.OK)
	wantWait(t, g, 1, false, api.OK)
	wantWait(t, g, 3, false, api.OK)
	wantDone(t, g, api.OK)
	stands(t, g, group(4, 1, 1, 3))
	wantDone(t, g, api.OK, 1, 3)
	stands(t, g, group(4, 0))
}

// P12.1: of each size that there may be, just those tasks are there.
func TestNew(t *testing.T) {
	for _, tasks := range []int{1, 2, 3, 16, 255, 256, 257, 999, 1000} {
		g := made(t, tasks)
		stands(t, g, group(tasks, 0))
		for _, count := range []int64{0, 1} {
			wantAdd(t, g, count, api.OK)
			for _, n := range outside(tasks) {
				wantWait(t, g, n, false, api.ErrName)
				wantLeave(t, g, n, false)
			}
			stands(t, g, group(tasks, count))
		}
		for n := range tasks {
			one := made(t, tasks)
			wantWait(t, one, n, true, api.OK)
			wantLeave(t, one, n, false)
			wantWait(t, group(tasks, 1).make(t), n, false, api.OK)
			wantWait(t, g, n, false, api.OK)
		}
		if l := g.Waiting(); len(l) != tasks {
			t.Errorf("of %d tasks %d wait", tasks, len(l))
		}
	}
}

// P12.1
func TestNewOfWrongSizes(t *testing.T) {
	for _, tasks := range []int{
		0, -1, -2, -1000, 1001, 1002, 2000, 1 << 16, 1<<16 + 1, 1 << 32, 1<<32 + 1, -1 << 32, math.MinInt, math.MinInt + 1, math.MaxInt,
	} {
		if g, e := waits.New(tasks); g != nil || e != api.ErrArg {
			t.Errorf("New(%d) = %v, %d, want nil, %d", tasks, g, e, api.ErrArg)
		}
	}
}

// P12.1: the count is told whole, however great it is, and however often one asks.
func TestCount(t *testing.T) {
	for _, n := range []int64{
		0, 1, 2, 255, 256, 1<<31 - 1, 1 << 31, 1<<32 - 1, 1 << 32, 1<<53 + 1, 1 << 62, top - 2, top - 1, top,
	} {
		g := made(t, 3)
		wantAdd(t, g, n, api.OK)
		for range 3 {
			if count := g.Count(); count != n {
				t.Errorf("Count() = %d, want %d", count, n)
			}
		}
	}
}

// P12.1: those who wait are told in the order in which they came, not in that of their numbers, and go on waiting.
func TestWaiting(t *testing.T) {
	for _, row := range [][]int{
		nil, {0}, {5}, {1, 2}, {2, 1}, {5, 0, 1, 2}, {4, 5, 1, 0, 2}, {6}, {6, 0}, {5, 6, 4, 0, 1, 2, 3}, {0, 1, 2, 3, 4, 5, 6},
	} {
		m := group(7, 1, row...)
		g := m.make(t)
		for range 3 {
			stands(t, g, m)
		}
		wantDone(t, g, api.OK, row...)
		stands(t, g, group(7, 0))
	}
}

// P12.2: what is added to a count that it brings to an edge, or just beyond one.
func TestAdd(t *testing.T) {
	for _, c := range []struct {
		count, n int64
		e        api.Errno
		is       int64
	}{
		{0, 0, api.OK, 0},
		{0, 1, api.OK, 1},
		{0, -1, api.ErrArg, 0},
		{0, top - 1, api.OK, top - 1},
		{0, top, api.OK, top},
		{0, least, api.ErrArg, 0},
		{0, least + 1, api.ErrArg, 0},
		{1, 0, api.OK, 1},
		{1, 1, api.OK, 2},
		{1, -1, api.OK, 0},
		{1, -2, api.ErrArg, 1},
		{1, top - 2, api.OK, top - 1},
		{1, top - 1, api.OK, top},
		{1, top, api.ErrFull, 1},
		{1, least, api.ErrArg, 1},
		{1, least + 1, api.ErrArg, 1},
		{7, -6, api.OK, 1},
		{7, -7, api.OK, 0},
		{7, -8, api.ErrArg, 7},
		{7, top - 7, api.OK, top},
		{7, top - 6, api.ErrFull, 7},
		{7, top, api.ErrFull, 7},
		{1 << 62, 1<<62 - 1, api.OK, top},
		{1 << 62, 1 << 62, api.ErrFull, 1 << 62},
		{1 << 62, -1 << 62, api.OK, 0},
		{1 << 62, -1<<62 - 1, api.ErrArg, 1 << 62},
		{top - 1, 1, api.OK, top},
		{top - 1, 2, api.ErrFull, top - 1},
		{top - 1, least + 1, api.ErrArg, top - 1},
		{top - 1, least + 2, api.OK, 0},
		{top, 0, api.OK, top},
		{top, 1, api.ErrFull, top},
		{top, -1, api.OK, top - 1},
		{top, top, api.ErrFull, top},
		{top, least, api.ErrArg, top},
		{top, least + 1, api.OK, 0},
		{top, least + 2, api.OK, 1},
	} {
		g := made(t, 2)
		wantAdd(t, g, c.count, api.OK)
		wantAdd(t, g, c.n, c.e)
		stands(t, g, group(2, c.is))
	}
}

// P12.2: what brings the count below 0, or to more than it may be, changes nothing, whoever waits.
func TestAddThatMayNotBe(t *testing.T) {
	for _, from := range groups(3) {
		g := from.make(t)
		for _, n := range numbers(from.count) {
			_, below, above := sum(from.count, n)
			switch {
			case below:
				wantAdd(t, g, n, api.ErrArg)
			case above:
				wantAdd(t, g, n, api.ErrFull)
			}
			stands(t, g, from)
		}
		if from.count > 0 {
			wantAdd(t, g, -from.count, api.OK, from.row...)
		}
	}
}

// P12.2: when the count comes to 0 nobody waits any more, and all who did are told, in order; by one step, or by several.
func TestComesToZero(t *testing.T) {
	for _, from := range counted(4) {
		g := from.make(t)
		wantAdd(t, g, -from.count, api.OK, from.row...)
		stands(t, g, group(4, 0))
		for n := range 4 {
			wantLeave(t, g, n, false)
		}

		g = from.make(t)
		wantAdd(t, g, 1-from.count, api.OK)
		stands(t, g, group(4, 1, from.row...))
		wantDone(t, g, api.OK, from.row...)
		stands(t, g, group(4, 0))
		wantAdd(t, g, 0, api.OK)
		wantDone(t, g, api.ErrArg)
		stands(t, g, group(4, 0))
	}
}

// P12.2: what doesn't bring the count to 0 tells nobody, and all wait still; 0 too.
func TestDoesNotComeToZero(t *testing.T) {
	for _, from := range counted(4) {
		for _, n := range numbers(from.count) {
			s, below, above := sum(from.count, n)
			if below || above || s == 0 {
				continue
			}
			g := from.make(t)
			wantAdd(t, g, n, api.OK)
			stands(t, g, group(4, s, from.row...))
		}
	}
}

// P12.2: 0 added changes nothing, whatever the count is, and whoever waits.
func TestAddOfZero(t *testing.T) {
	for _, from := range groups(4) {
		g := from.make(t)
		for range 2 {
			wantAdd(t, g, 0, api.OK)
			stands(t, g, from)
		}
	}
}

// P12.2: Done is what Add of -1 is, of each group.
func TestDone(t *testing.T) {
	for _, from := range groups(4) {
		m := from.clone()
		a, b := m.make(t), m.make(t)
		told, e := m.add(-1)
		wantDone(t, a, e, told...)
		wantAdd(t, b, -1, e, told...)
		stands(t, a, m)
		stands(t, b, m)
	}
}

// P12.2: one is taken off by each Done, till the count is 0; then there is none to take, and nothing is changed.
func TestDoneAgain(t *testing.T) {
	g := group(6, 5, 4, 0, 2).make(t)
	for n := int64(4); n > 0; n-- {
		wantDone(t, g, api.OK)
		stands(t, g, group(6, n, 4, 0, 2))
	}
	wantDone(t, g, api.OK, 4, 0, 2)
	for range 3 {
		wantDone(t, g, api.ErrArg)
		stands(t, g, group(6, 0))
	}
	wantAdd(t, g, 1, api.OK)
	wantDone(t, g, api.OK)
	stands(t, g, group(6, 0))
}

// P12.3: where the count is 0 it is told so, and nobody waits, whoever asks, and however often.
func TestWaitAtZero(t *testing.T) {
	used := group(4, 3, 2, 0).make(t)
	wantAdd(t, used, -3, api.OK, 2, 0)
	for _, g := range []*waits.Group{made(t, 4), used} {
		for range 2 {
			for n := range 4 {
				wantWait(t, g, n, true, api.OK)
				stands(t, g, group(4, 0))
				wantLeave(t, g, n, false)
			}
		}
		wantAdd(t, g, 1, api.OK)
		stands(t, g, group(4, 1))
		wantDone(t, g, api.OK)
	}
}

// P12.3: where the count isn't 0 all wait, each behind all, however great the count is.
func TestWaitAboveZero(t *testing.T) {
	for _, count := range []int64{1, 2, 1 << 32, top - 1, top} {
		g, row := group(6, count).make(t), []int{3, 1, 5, 0, 4, 2}
		for i, n := range row {
			wantWait(t, g, n, false, api.OK)
			stands(t, g, group(6, count, row[:i+1]...))
		}
		wantAdd(t, g, -count, api.OK, row...)
	}
}

// P12.3: who waits already doesn't wait once more, wherever it stands; nothing is changed.
func TestWaitsAlready(t *testing.T) {
	for _, from := range counted(4) {
		g := from.make(t)
		for range 2 {
			for _, n := range from.row {
				wantWait(t, g, n, false, api.ErrWaits)
				stands(t, g, from)
			}
		}
		wantAdd(t, g, -from.count, api.OK, from.row...)
	}
}

// P12.3: of no such task that is told, whatever the count is, and whoever waits; nothing is changed.
func TestNoSuchTask(t *testing.T) {
	for _, from := range groups(3) {
		g := from.make(t)
		for _, n := range outside(3) {
			wantWait(t, g, n, false, api.ErrName)
			stands(t, g, from)
			wantLeave(t, g, n, false)
			stands(t, g, from)
		}
	}
}

// P12.3: who waits first, last, between others or alone leaves, and the others stay in their order; the count stays.
func TestLeave(t *testing.T) {
	for _, from := range counted(5) {
		for _, n := range from.row {
			g, others := from.make(t), without(from.row, n)
			wantLeave(t, g, n, true)
			stands(t, g, group(5, from.count, others...))
			wantLeave(t, g, n, false)
			stands(t, g, group(5, from.count, others...))
			wantAdd(t, g, -from.count, api.OK, others...)
			stands(t, g, group(5, 0))
		}
	}
}

// P12.3: who doesn't wait doesn't leave: who never came, who left, who was told, who asked where the count is 0; nothing is
// changed.
func TestLeaveOfNotWaiting(t *testing.T) {
	for _, from := range groups(4) {
		g := from.make(t)
		for n := range 4 {
			if slices.Contains(from.row, n) {
				continue
			}
			wantLeave(t, g, n, false)
			stands(t, g, from)
		}
	}
	g := group(5, 2, 0, 4, 1).make(t)
	wantLeave(t, g, 4, true)
	for _, n := range []int{2, 3, 4} {
		wantLeave(t, g, n, false)
		stands(t, g, group(5, 2, 0, 1))
	}
	wantAdd(t, g, -2, api.OK, 0, 1)
	wantAdd(t, g, 1, api.OK)
	for n := range 5 {
		wantLeave(t, g, n, false)
		stands(t, g, group(5, 1))
	}
}

// P12.3: all leave, in whatever order, and nobody is told when the count comes to 0.
func TestAllLeave(t *testing.T) {
	for _, order := range arrangements(4) {
		if len(order) < 4 {
			continue
		}
		g := group(4, 2, 3, 1, 0, 2).make(t)
		wantLeaves(t, g, order...)
		stands(t, g, group(4, 2))
		wantAdd(t, g, -2, api.OK)
		stands(t, g, group(4, 0))
	}
}

// P12.3: who left may wait again, behind those who came meanwhile.
func TestWaitsAgainBehindLeave(t *testing.T) {
	g := group(6, 1, 0, 1).make(t)
	wantLeave(t, g, 0, true)
	wantWaits(t, g, 2, 0)
	wantWait(t, g, 0, false, api.ErrWaits)
	stands(t, g, group(6, 1, 1, 2, 0))
	wantLeaves(t, g, 2, 1, 0)
	wantWaits(t, g, 1, 3, 2)
	wantLeave(t, g, 1, true)
	wantWaits(t, g, 1)
	stands(t, g, group(6, 1, 3, 2, 1))
	wantDone(t, g, api.OK, 3, 2, 1)
}

// P12.2, P12.3: who was told may wait again, once the count isn't 0 any more, and is told again.
func TestWaitsAgainBehindBeingTold(t *testing.T) {
	g := made(t, 5)
	for i, row := range [][]int{{3, 0, 4}, {4, 3, 0}, {0, 1}, nil, {2}, {1, 2, 4, 3, 0}} {
		count := int64(i + 1)
		wantAdd(t, g, count, api.OK)
		stands(t, g, group(5, count))
		wantWaits(t, g, row...)
		stands(t, g, group(5, count, row...))
		wantAdd(t, g, -count, api.OK, row...)
		for _, n := range row {
			wantWait(t, g, n, true, api.OK)
		}
		stands(t, g, group(5, 0))
	}
}

// spoil changes a list that was told, and what stands behind it.
func spoil(list []int) {
	for i := range list {
		list[i] = 77
	}
	_ = append(list, 77, 78)
	_ = append(list[:0], 79)
	all := list[:cap(list)]
	for i := range all {
		all[i] = 80
	}
}

// P12.1, P12.2: a list that was told is the asker's own: whoever changes it changes nothing that is kept.
func TestListsAreNew(t *testing.T) {
	for _, from := range counted(4) {
		g := from.make(t)
		for range 2 {
			spoil(g.Waiting())
			stands(t, g, from)
		}
		told, e := g.Add(-from.count)
		if !slices.Equal(told, from.row) || e != api.OK {
			t.Errorf("Add(%d) = %v, %d, want %v, 0", -from.count, told, e, from.row)
		}
		spoil(told)
		spoil(g.Waiting())
		stands(t, g, group(4, 0))
		wantAdd(t, g, 1, api.OK)
		wantWaits(t, g, from.row...)
		spoil(told)
		stands(t, g, group(4, 1, from.row...))
	}
}

// P12.1, P12.2: a list that was told stays as it was, whatever is done later, and has nothing in common with another one.
func TestListsStay(t *testing.T) {
	g := group(6, 1, 3, 1, 5, 0).make(t)
	waiting, same := g.Waiting(), g.Waiting()
	spoil(same)
	wantLeave(t, g, 5, true)
	fewer := g.Waiting()
	wantLeave(t, g, 3, true)
	wantWaits(t, g, 4, 3)
	last := g.Waiting()
	told, _ := g.Done()
	wantAdd(t, g, 1, api.OK)
	wantWaits(t, g, 5, 4, 3, 2, 1, 0)
	again, _ := g.Done()
	spoil(g.Waiting())
	for i, list := range []struct{ is, was []int }{
		{waiting, []int{3, 1, 5, 0}},
		{fewer, []int{3, 1, 0}},
		{last, []int{1, 0, 4, 3}},
		{told, []int{1, 0, 4, 3}},
		{again, []int{5, 4, 3, 2, 1, 0}},
	} {
		if !slices.Equal(list.is, list.was) {
			t.Errorf("list %d that was told as %v is %v now", i, list.was, list.is)
		}
	}
	spoil(last)
	spoil(again)
	if !slices.Equal(told, []int{1, 0, 4, 3}) {
		t.Errorf("two lists that were told have something in common: %v", told)
	}
}

// P12.1: two groups have nothing in common: who waits for one may wait for the other one.
func TestGroupsAreApart(t *testing.T) {
	a, b := group(3, 2, 2, 0).make(t), made(t, 3)
	stands(t, b, group(3, 0))
	wantWait(t, b, 2, true, api.OK)
	wantAdd(t, b, 5, api.OK)
	wantWaits(t, b, 0, 1, 2)
	wantAdd(t, a, -2, api.OK, 2, 0)
	stands(t, a, group(3, 0))
	stands(t, b, group(3, 5, 0, 1, 2))
	wantAdd(t, b, -5, api.OK, 0, 1, 2)
}

// P12.1 to P12.3 of a group with one task alone.
func TestOneTask(t *testing.T) {
	g := made(t, 1)
	wantWait(t, g, 0, true, api.OK)
	wantWait(t, g, 1, false, api.ErrName)
	wantLeave(t, g, 0, false)
	wantDone(t, g, api.ErrArg)
	stands(t, g, group(1, 0))
	wantAdd(t, g, 1, api.OK)
	wantWait(t, g, 0, false, api.OK)
	wantWait(t, g, 0, false, api.ErrWaits)
	wantWait(t, g, 1, false, api.ErrName)
	stands(t, g, group(1, 1, 0))
	wantLeave(t, g, 0, true)
	wantWait(t, g, 0, false, api.OK)
	wantDone(t, g, api.OK, 0)
	wantWait(t, g, 0, true, api.OK)
	stands(t, g, group(1, 0))
}

// P12.1 to P12.3 at the greatest size: all wait, every third one leaves, some come back, and the rest is told; and once more.
func TestGreatest(t *testing.T) {
	g, m := made(t, 1000), group(1000, 0)
	for _, count := range []int64{1, 1000, top} {
		do(t, g, m, call{add, count})
		for i := range int64(1000) {
			do(t, g, m, call{wait, i * 7 % 1000})
		}
		for n := int64(0); n < 1000; n += 3 {
			do(t, g, m, call{leave, n})
		}
		for n := int64(0); n < 1000; n += 6 {
			do(t, g, m, call{wait, n})
		}
		do(t, g, m, call{add, 1 - count})
		do(t, g, m, call{done, 0})
		for n := range int64(1000) {
			do(t, g, m, call{wait, n})
		}
		stands(t, g, group(1000, 0))
	}
}

// P12.2: all tasks that there may be wait, and all of them are told at once.
func TestAllAreTold(t *testing.T) {
	var row []int
	for n := range 1000 {
		row = append(row, (n*7+500)%1000)
	}
	for _, count := range []int64{1, top} {
		g := group(1000, count, row...).make(t)
		wantAdd(t, g, -count, api.OK, row...)
		stands(t, g, group(1000, 0))
	}
}

// P12.1 to P12.3: whatever is called, be it right or wrong, of small groups, however they stand, and what each one says of
// every call that comes then.
func TestEveryStepOfSmallGroups(t *testing.T) {
	for tasks := 1; tasks <= 3; tasks++ {
		for _, from := range groups(tasks) {
			everyTwoCalls(t, from)
		}
	}
}

func everyTwoCalls(t *testing.T, from *model) {
	t.Helper()
	for _, first := range callsOf(from) {
		then := from.clone()
		do(t, from.make(t), then, first)
		for _, second := range callsOf(then) {
			g, m := from.make(t), from.clone()
			do(t, g, m, first)
			do(t, g, m, second)
			if t.Failed() {
				t.Fatalf("%v, then call %v, then %v", *from, first, second)
			}
		}
	}
}

// someCall is a call that changes a group, often one that is right.
func someCall(r *rand.Rand, m *model) call {
	task := int64(r.Intn(m.tasks+2) - 1)
	switch r.Intn(8) {
	case 0:
		all := numbers(m.count)
		return call{add, all[r.Intn(len(all))]}
	case 1:
		return call{add, int64(r.Intn(9) - 4)}
	case 2:
		return call{done, 0}
	case 3, 4:
		return call{leave, task}
	}
	return call{wait, task}
}

// P12.1 to P12.3: long ways, on which nothing is left of what was.
func TestLongWays(t *testing.T) {
	for seed := range int64(100) {
		r := rand.New(rand.NewSource(seed))
		m := group(1+r.Intn(10), 0)
		g := made(t, m.tasks)
		for range 600 {
			c := someCall(r, m)
			do(t, g, m, c)
			if t.Failed() {
				t.Fatalf("seed %d: call %v", seed, c)
			}
		}
	}
}

// P12.4: the count is the sum of all that was added, by Add and by Done, and never below 0, whoever waits, leaves or is told.
func TestCountIsTheSum(t *testing.T) {
	for seed := range int64(200) {
		r := rand.New(rand.NewSource(seed))
		g, added := made(t, 4), new(big.Int)
		for range 100 {
			n, e := int64(-1), api.OK
			switch r.Intn(5) {
			case 0:
				all := numbers(g.Count())
				n = all[r.Intn(len(all))]
				_, e = g.Add(n)
			case 1:
				n = r.Int63() - r.Int63()
				_, e = g.Add(n)
			case 2:
				_, e = g.Done()
			case 3:
				g.Wait(r.Intn(4))
				n = 0
			case 4:
				g.Leave(r.Intn(4))
				n = 0
			}
			if e == api.OK {
				added.Add(added, big.NewInt(n))
			}
			if count := g.Count(); count < 0 || big.NewInt(count).Cmp(added) != 0 {
				t.Fatalf("seed %d: %s was added, and the count is %d", seed, added, count)
			}
		}
	}
}

// P12.4: nobody waits where the count is 0, and who asks then needn't.
func TestNobodyWaitsAtZero(t *testing.T) {
	r := rand.New(rand.NewSource(124))
	g, zero := made(t, 5), 0
	for range 5000 {
		n := r.Intn(5)
		switch r.Intn(6) {
		case 0:
			g.Add(int64(r.Intn(5) - 2))
		case 1, 2:
			g.Done()
		case 3:
			g.Leave(n)
		default:
			g.Wait(n)
		}
		if g.Count() > 0 {
			continue
		}
		zero++
		if l := g.Waiting(); len(l) > 0 {
			t.Fatalf("the count is 0, and %v wait", l)
		}
		wantWait(t, g, n, true, api.OK)
	}
	if zero < 500 || zero > 4500 {
		t.Errorf("the count was 0 %d times", zero)
	}
}

// P12.4: who waits is told when the count comes to 0, once, in order, and not earlier; and not at all, if it left.
func TestToldAtZeroAndNotEarlier(t *testing.T) {
	told := 0
	for seed := range int64(200) {
		r := rand.New(rand.NewSource(seed))
		g, came := made(t, 6), []int{}
		for range 100 {
			n := r.Intn(6)
			switch r.Intn(6) {
			case 0, 1:
				was := g.Count()
				l, e := g.Add(int64(r.Intn(6) - 3))
				if e != api.OK || g.Count() > 0 {
					if len(l) > 0 {
						t.Fatalf("seed %d: the count was %d, and is %d, and %v are told", seed, was, g.Count(), l)
					}
					break
				}
				if !slices.Equal(l, came) {
					t.Fatalf("seed %d: %v waited, and %v are told", seed, came, l)
				}
				told, came = told+len(l), []int{}
			case 2:
				if g.Leave(n) {
					came = without(came, n)
				}
			default:
				if through, e := g.Wait(n); e == api.OK && !through {
					came = append(came, n)
				}
			}
			if l := g.Waiting(); !slices.Equal(l, came) {
				t.Fatalf("seed %d: %v wait, and those who came are %v", seed, l, came)
			}
		}
	}
	if told < 100 {
		t.Errorf("%d were told only", told)
	}
}
