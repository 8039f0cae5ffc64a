package task_test

import (
	"math"
	"math/rand"
	"slices"
	"testing"

	"countermand/api"
	"countermand/task"
)

const (
	least = math.MinInt64
	top   = math.MaxInt64
)

// The calls that change a table.
const (
	begin = iota
	goTo
	set
	park
	again
	wake
	end
)

// names are what they are called.
var names = []string{"Begin", "Go", "Set", "Park", "Again", "Wake", "End"}

// call is one of them, and what it is given.
type call struct {
	what int
	n    int       // the task; of Begin the program
	i    int       // Begin's team, Go's place, Set's register
	x    int64     // what Set or Wake is given, and End's error
	p    task.Park // what Park or Again is given
}

// model is a table as plainly as the document says it: its tasks, each of which is put in place of the one that it was.
type model struct {
	most  int
	tasks []task.Task
}

func (m *model) clone() *model { return &model{m.most, slices.Clone(m.tasks)} }

func (m *model) get(n int) (task.Task, bool) {
	for i, x := range m.tasks {
		if i == n {
			return x, true
		}
	}
	return task.Task{}, false
}

func (m *model) begin(prog, team int) (int, api.Errno) {
	if len(m.tasks) == m.most {
		return -1, api.ErrFull
	}
	m.tasks = append(m.tasks, task.Task{State: task.Ready, Prog: prog, Team: team})
	return len(m.tasks) - 1, api.OK
}

// does does one of the calls that tell whether it is done.
func (m *model) does(c call) bool {
	x, is := m.get(c.n)
	ready, parked := x.State == task.Ready, x.State == task.Parked
	can, y := false, x
	switch c.what {
	case goTo:
		can, y.At = ready, c.i
	case set:
		can = is && x.State != task.Ended
		y, is = written(x, c.i, c.x)
		can = can && is
	case park:
		can, y.State, y.Wait = ready && c.p.Kind > 0, task.Parked, c.p
	case again:
		can, y.Wait = parked && c.p.Kind > 0, c.p
	case wake:
		y, _ = written(x, x.Wait.Reg, c.x)
		can, y.State, y.Wait = parked, task.Ready, task.Park{}
	case end:
		can, y.State, y.Wait, y.Err = is && x.State != task.Ended, task.Ended, task.Park{}, c.x
	}
	if can {
		m.tasks[c.n] = y
	}
	return can
}

// written is a task one of whose registers has x, if there is such a register.
func written(y task.Task, reg int, x int64) (task.Task, bool) {
	for r := range y.Regs {
		if r == reg {
			y.Regs[r] = x
			return y, true
		}
	}
	return y, false
}

// those are the numbers of all tasks that are so.
func (m *model) those(is func(x task.Task) bool) []int {
	var l []int
	for n := range m.tasks {
		if is(m.tasks[n]) {
			l = append(l, n)
		}
	}
	return l
}

func (m *model) in(state int) []int {
	return m.those(func(x task.Task) bool { return x.State == state })
}

func (m *model) under(ctx int) []int {
	if ctx < 0 {
		return nil
	}
	return m.those(func(x task.Task) bool { return x.State == task.Parked && x.Wait.Ctx == ctx })
}

// ends are numbers at the ends of what an int may be, about 0, and where smaller kinds of numbers go round.
var ends = []int{
	0, 1, -1, 2, -2, 5, 6, 7, 8, 16, 199, 200, 201, -200, 1 << 8, 1 << 16, -1 << 16, 1 << 32, 1<<32 + 1, -1 << 32,
	math.MinInt, math.MinInt + 1, math.MaxInt, math.MaxInt - 1,
}

// numbers are those of 64 bits.
var numbers = []int64{0, 1, -1, 7, -3, 1 << 32, -1 << 32, 1<<53 + 1, least, least + 1, top, top - 1}

// outside are numbers of which there is no task, where there are so many.
func outside(many int) []int {
	return []int{
		-1, many, -2, many + 1, 200 + many, -200, 1<<8 + many, 1 << 16, 1<<16 + many, 1 << 32, 1<<32 + 1, -1 << 16, -1 << 32,
		math.MinInt, math.MinInt + 1, math.MaxInt, math.MaxInt - 1,
	}
}

// noRegs are numbers of which there is no register.
var noRegs = []int{
	-1, api.MostRegs, -2, -6, api.MostRegs + 1, 12, 1<<8 + 1, 1<<16 + 2, 1 << 32, 1<<32 + 3, -1 << 32, math.MinInt, math.MinInt + 1, math.MaxInt, math.MaxInt - 1,
}

// whole is a wait, each part of which is another number, and none of them 0.
func whole(kind int) task.Park {
	return task.Park{Kind: kind, Obj: 102, Ctx: 3, Reg: 4, Lock: 105, N: 106}
}

// told is what a task that waits is told in these tests, if nothing else is said.
const told = 41

func made(t *testing.T, most int) *task.Table {
	t.Helper()
	x, e := task.New(most)
	if x == nil || e != api.OK {
		t.Fatalf("New(%d) = %v, %d", most, x, e)
	}
	return x
}

// both are a table, and its model.
type both struct {
	x *task.Table
	m *model
}

func pair(t *testing.T, most int) *both {
	t.Helper()
	return &both{made(t, most), &model{most: most}}
}

// begun is a table of so many fresh tasks, each of another program and team.
func begun(t *testing.T, most, many int) *both {
	t.Helper()
	b := pair(t, most)
	for i := range many {
		b.do(t, call{what: begin, n: 10 + i, i: i - 1})
	}
	return b
}

// do makes a call of a table and of its model, and holds the answers against each other; it tells whether it was done.
func (b *both) do(t *testing.T, c call) bool {
	t.Helper()
	if c.what == begin {
		n, e := b.m.begin(c.n, c.i)
		if got, gotE := b.x.Begin(c.n, c.i); got != n || gotE != e {
			t.Errorf("Begin(%d, %d) = %d, %d, want %d, %d", c.n, c.i, got, gotE, n, e)
		}
		return e == api.OK
	}
	want := b.m.does(c)
	if got := ask(b.x, c); got != want {
		t.Errorf("%s of %+v = %t, want %t", names[c.what], c, got, want)
	}
	return want
}

// ask makes one of the calls that tell whether it is done.
func ask(x *task.Table, c call) bool {
	switch c.what {
	case goTo:
		return x.Go(c.n, c.i)
	case set:
		return x.Set(c.n, c.i, c.x)
	case park:
		return x.Park(c.n, c.p)
	case again:
		return x.Again(c.n, c.p)
	case wake:
		return x.Wake(c.n, c.x)
	}
	return x.End(c.n, c.x)
}

// done makes calls that all must be done.
func (b *both) done(t *testing.T, calls ...call) {
	t.Helper()
	for _, c := range calls {
		if !b.do(t, c) {
			t.Errorf("%s of %+v isn't done", names[c.what], c)
		}
	}
	b.stands(t)
}

// refused makes calls none of which may be done; nothing changes.
func (b *both) refused(t *testing.T, calls ...call) {
	t.Helper()
	before := b.m.clone()
	for _, c := range calls {
		if b.do(t, c) {
			t.Errorf("%s of %+v is done", names[c.what], c)
		}
		if !slices.Equal(b.m.tasks, before.tasks) {
			t.Errorf("%s of %+v changes the model", names[c.what], c)
		}
		b.stands(t)
	}
}

// stands holds all that a table tells against its model.
func (b *both) stands(t *testing.T) {
	t.Helper()
	if n := b.x.Len(); n != len(b.m.tasks) {
		t.Errorf("Len() = %d, want %d", n, len(b.m.tasks))
	}
	for n := range b.m.tasks {
		wantTask(t, b.x, n, b.m.tasks[n])
		ctx := b.m.tasks[n].Wait.Ctx
		wantList(t, "Under", ctx, b.x.Under(ctx), b.m.under(ctx)...)
	}
	for _, n := range []int{-1, len(b.m.tasks)} {
		wantNone(t, b.x, n)
	}
	for state := -1; state <= 4; state++ {
		wantList(t, "In", state, b.x.In(state), b.m.in(state)...)
	}
	for ctx := -2; ctx <= 4; ctx++ {
		wantList(t, "Under", ctx, b.x.Under(ctx), b.m.under(ctx)...)
	}
}

func wantTask(t *testing.T, x *task.Table, n int, want task.Task) {
	t.Helper()
	if got, is := x.Get(n); !is || got != want {
		t.Errorf("Get(%d) = %+v, %t, want %+v, true", n, got, is, want)
	}
}

func wantNone(t *testing.T, x *task.Table, n int) {
	t.Helper()
	if got, is := x.Get(n); is || got != (task.Task{}) {
		t.Errorf("Get(%d) = %+v, %t, want the zero one, false", n, got, is)
	}
}

func wantList(t *testing.T, what string, of int, got []int, want ...int) {
	t.Helper()
	if !slices.Equal(got, want) {
		t.Errorf("%s(%d) = %v, want %v", what, of, got, want)
	}
}

func wantDone(t *testing.T, what string, got, want bool) {
	t.Helper()
	if got != want {
		t.Errorf("%s = %t, want %t", what, got, want)
	}
}

// way is how a task comes to stand as it does: the calls of it, behind Begin.
type way struct {
	name  string
	state int
	calls []call
}

// ways are those to each state, by which a task has something in each of its parts, or nothing in them.
func ways() []way {
	gone := []call{{what: goTo, i: 9}, {what: set, i: 0, x: 50}, {what: set, i: 4, x: -54}, {what: set, i: 5, x: top}}
	after := func(l []call, more ...call) []call { return append(slices.Clone(l), more...) }
	parked := after(gone, call{what: park, p: whole(2)})
	return []way{
		{"fresh", task.Ready, nil},
		{"gone", task.Ready, gone},
		{"woken", task.Ready, after(parked, call{what: wake, x: told})},
		{"parked at once", task.Parked, []call{{what: park, p: task.Park{Kind: 1}}}},
		{"parked under none", task.Parked, []call{{what: park, p: task.Park{Kind: 11, Ctx: -1, Reg: -1, Lock: -1}}}},
		{"parked", task.Parked, parked},
		{"parked again", task.Parked, after(parked, call{what: again, p: task.Park{Kind: 3, Reg: 5, N: -9}})},
		{"ended at once", task.Ended, []call{{what: end}}},
		{"ended", task.Ended, after(gone, call{what: end, x: -7})},
		{"ended while parked", task.Ended, after(parked, call{what: end, x: least})},
	}
}

// walk lets a task go such a way.
func (b *both) walk(t *testing.T, n int, w way) {
	t.Helper()
	for _, c := range w.calls {
		c.n = n
		if !b.do(t, c) {
			t.Fatalf("%s: %s of %+v isn't done", w.name, names[c.what], c)
		}
	}
}

// eachWay runs a test of the middle one of three tasks, for each way on which it can come to stand; the others are parked and ready.
func eachWay(t *testing.T, test func(t *testing.T, b *both, w way)) {
	for _, w := range ways() {
		t.Run(w.name, func(t *testing.T) {
			b := begun(t, 4, 3)
			b.done(t, call{what: park, n: 0, p: whole(5)}, call{what: set, n: 2, i: 1, x: 77})
			b.walk(t, 1, w)
			b.stands(t)
			if x, _ := b.x.Get(1); x.State != w.state {
				t.Fatalf("it is %d, want %d", x.State, w.state)
			}
			test(t, b, w)
			b.stands(t)
		})
	}
}

// The document's example.
func TestExample(t *testing.T) {
	x := made(t, 1)
	if n, e := x.Begin(0, -1); n != 0 || e != api.OK {
		t.Errorf("Begin(0, -1) = %d, %d", n, e)
	}
	wantDone(t, "Park", x.Park(0, task.Park{Kind: 1, Ctx: -1, Reg: 2, Lock: -1}), true)
	wantDone(t, "Wake", x.Wake(0, 7), true)
	wantTask(t, x, 0, task.Task{State: task.Ready, Team: -1, Regs: [6]int64{0, 0, 7, 0, 0, 0}})
}

// The states are these numbers.
func TestStates(t *testing.T) {
	if task.Ready != 1 || task.Parked != 2 || task.Ended != 3 {
		t.Error(task.Ready, task.Parked, task.Ended)
	}
}

// P18.1: of each size that there may be, just so many tasks may be there, and an empty table tells nothing of any.
func TestNew(t *testing.T) {
	for most := 1; most <= 200; most++ {
		b := pair(t, most)
		b.stands(t)
		for i := range most {
			b.do(t, call{what: begin, n: i * i, i: -i})
		}
		b.stands(t)
		b.refused(t, call{what: begin, n: 1, i: 1})
		wantList(t, "In", task.Ready, b.x.In(task.Ready), b.m.in(task.Ready)...)
		if n := b.x.Len(); n != most {
			t.Errorf("Len() = %d, want %d", n, most)
		}
	}
}

// P18.1
func TestNewOfWrongSizes(t *testing.T) {
	for _, most := range []int{
		0, -1, -2, -200, 201, 202, 256, 257, 400, 1000, 1<<8 + 200, 1 << 16, 1<<16 + 1, 1 << 32, 1<<32 + 1, 1<<32 + 200, -1 << 32,
		math.MinInt, math.MinInt + 1, math.MaxInt, math.MaxInt - 1,
	} {
		if x, e := task.New(most); x != nil || e != api.ErrArg {
			t.Errorf("New(%d) = %v, %d, want nil, %d", most, x, e, api.ErrArg)
		}
	}
}

// P18.1: nothing can be done in an empty table, and nothing that was tried there is found in the first task.
func TestEmpty(t *testing.T) {
	for _, most := range []int{1, 2, 200} {
		b := pair(t, most)
		for _, n := range append([]int{0}, ends...) {
			b.refused(t, callsOf(n)...)
			wantNone(t, b.x, n)
			wantList(t, "In", n, b.x.In(n))
			wantList(t, "Under", n, b.x.Under(n))
		}
		b.done(t, call{what: begin, n: 3, i: -1})
		wantTask(t, b.x, 0, task.Task{State: task.Ready, Prog: 3, Team: -1})
	}
}

// callsOf are calls of a task that are done wherever it is in the right state.
func callsOf(n int) []call {
	return []call{
		{what: goTo, n: n, i: 5}, {what: set, n: n, i: 2, x: 8}, {what: park, n: n, p: whole(1)}, {what: again, n: n, p: whole(3)},
		{what: wake, n: n, x: 9}, {what: end, n: n, x: 4},
	}
}

// P18.1: a task that is begun is Ready, at the place 0, its registers are 0, and it waits for nothing; programs and teams may be any numbers.
func TestBegin(t *testing.T) {
	b := pair(t, 200)
	for i, prog := range ends {
		for _, team := range []int{ends[i], ends[len(ends)-1-i], -1} {
			n := b.x.Len()
			b.done(t, call{what: begin, n: prog, i: team})
			wantTask(t, b.x, n, task.Task{State: task.Ready, Prog: prog, Team: team})
		}
	}
}

// P18.1: numbers count on, from 0, and Len with them, whatever those who are there have done by then.
func TestNumbers(t *testing.T) {
	b := pair(t, 60)
	for i := range 60 {
		if n := b.x.Len(); n != i {
			t.Errorf("Len() = %d, want %d", n, i)
		}
		if n, e := b.x.Begin(i, i%5); n != i || e != api.OK {
			t.Errorf("Begin = %d, %d, want %d, 0", n, e, i)
		}
		b.m.begin(i, i%5)
		w := ways()[i%len(ways())]
		b.walk(t, i, w)
		if n := b.x.Len(); n != i+1 {
			t.Errorf("%s: Len() = %d, want %d", w.name, n, i+1)
		}
		b.stands(t)
	}
}

// P18.1: a table is full by all tasks that were begun, whatever they are now; a begin that is refused changes nothing.
func TestFull(t *testing.T) {
	for _, most := range []int{1, 3, 200} {
		for _, w := range ways() {
			for _, only := range []int{-1, 0, most - 1} {
				b := begun(t, most, most)
				for n := range most {
					if only == -1 || n == only {
						b.walk(t, n, w)
					}
				}
				for i, prog := range ends {
					if b.do(t, call{what: begin, n: prog, i: ends[len(ends)-1-i]}) {
						t.Errorf("%s: begun in a full table", w.name)
					}
				}
				b.stands(t)
				b.do(t, call{what: end, n: most - 1})
				b.refused(t, call{what: begin})
			}
		}
	}
}

// P18.1: tasks are told as they are; there is none below 0, nor behind the last one.
func TestGet(t *testing.T) {
	eachWay(t, func(t *testing.T, b *both, w way) {
		wantTask(t, b.x, 0, task.Task{State: task.Parked, Prog: 10, Team: -1, Wait: whole(5)})
		wantTask(t, b.x, 2, task.Task{State: task.Ready, Prog: 12, Team: 1, Regs: [6]int64{1: 77}})
		for _, n := range outside(3) {
			wantNone(t, b.x, n)
		}
		// A place that may be taken isn't taken yet.
		b.done(t, call{what: begin, n: 0, i: 0})
		wantTask(t, b.x, 3, task.Task{State: task.Ready})
		wantNone(t, b.x, 4)
	})
	full := begun(t, 200, 200)
	wantTask(t, full.x, 0, task.Task{State: task.Ready, Prog: 10, Team: -1})
	wantTask(t, full.x, 199, task.Task{State: task.Ready, Prog: 209, Team: 198})
	for _, n := range outside(200) {
		wantNone(t, full.x, n)
	}
}

// P18.1: what a task has, on each of the ways, written out.
func TestGetOnEachWay(t *testing.T) {
	regs := [6]int64{50, 0, 0, 0, -54, top}
	want := map[string]task.Task{
		"fresh":              {State: 1},
		"gone":               {State: 1, At: 9, Regs: regs},
		"woken":              {State: 1, At: 9, Regs: [6]int64{50, 0, 0, 0, told, top}},
		"parked at once":     {State: 2, Wait: task.Park{Kind: 1}},
		"parked under none":  {State: 2, Wait: task.Park{Kind: 11, Ctx: -1, Reg: -1, Lock: -1}},
		"parked":             {State: 2, At: 9, Regs: regs, Wait: task.Park{Kind: 2, Obj: 102, Ctx: 3, Reg: 4, Lock: 105, N: 106}},
		"parked again":       {State: 2, At: 9, Regs: regs, Wait: task.Park{Kind: 3, Reg: 5, N: -9}},
		"ended at once":      {State: 3},
		"ended":              {State: 3, At: 9, Regs: regs, Err: -7},
		"ended while parked": {State: 3, At: 9, Regs: regs, Err: least},
	}
	eachWay(t, func(t *testing.T, b *both, w way) {
		x, is := want[w.name]
		if !is {
			t.Fatal("not written out")
		}
		x.Prog, x.Team = 11, 0
		wantTask(t, b.x, 1, x)
	})
}

// P18.2: nothing is done of a task that there isn't.
func TestNoSuchTask(t *testing.T) {
	for _, many := range []int{0, 1, 3, 4} {
		for _, w := range ways() {
			b := begun(t, 4, many)
			for n := range many {
				b.walk(t, n, w)
			}
			for _, n := range outside(many) {
				b.refused(t, callsOf(n)...)
			}
		}
	}
	b := begun(t, 200, 200)
	for _, n := range outside(200) {
		b.refused(t, callsOf(n)...)
	}
}

// P18.2: a Ready one goes to any place, be it where it is; no other one goes.
func TestGo(t *testing.T) {
	eachWay(t, func(t *testing.T, b *both, w way) {
		for _, at := range append(slices.Clone(ends), 5, 5) {
			c := call{what: goTo, n: 1, i: at}
			if w.state != task.Ready {
				b.refused(t, c)
				continue
			}
			before, _ := b.x.Get(1)
			b.done(t, c)
			before.At = at
			wantTask(t, b.x, 1, before)
		}
	})
}

// P18.2: each register of one that isn't Ended can be set to any number, and the others stay.
func TestSet(t *testing.T) {
	eachWay(t, func(t *testing.T, b *both, w way) {
		for reg := range api.MostRegs {
			for _, x := range append(slices.Clone(numbers), 5, 5) {
				c := call{what: set, n: 1, i: reg, x: x}
				if w.state == task.Ended {
					b.refused(t, c)
					continue
				}
				before, _ := b.x.Get(1)
				b.done(t, c)
				before.Regs[reg] = x
				wantTask(t, b.x, 1, before)
			}
		}
	})
}

// P18.2: there is no register below the first one, nor behind the last one.
func TestSetOfNoRegister(t *testing.T) {
	eachWay(t, func(t *testing.T, b *both, w way) {
		for _, reg := range noRegs {
			b.refused(t, call{what: set, n: 1, i: reg, x: 5}, call{what: set, n: 1, i: reg})
		}
	})
}

// kinds are those by which one may wait, and those by which none may.
var kinds = []struct {
	kind int
	may  bool
}{
	{1, true}, {0, false}, {-1, false}, {2, true}, {11, true}, {12, true}, {200, true}, {1 << 8, true}, {1 << 16, true}, {1 << 32, true},
	{-1 << 32, false}, {1 - 1<<32, false}, {math.MaxInt, true}, {math.MaxInt - 1, true}, {math.MinInt, false}, {math.MinInt + 1, false},
}

// P18.2: a Ready one can be parked, by a Kind of 1 or more, and waits by just that; no other one can.
func TestPark(t *testing.T) {
	for _, k := range kinds {
		eachWay(t, func(t *testing.T, b *both, w way) {
			c := call{what: park, n: 1, p: whole(k.kind)}
			if w.state != task.Ready || !k.may {
				b.refused(t, c)
				return
			}
			before, _ := b.x.Get(1)
			b.done(t, c)
			before.State, before.Wait = task.Parked, whole(k.kind)
			wantTask(t, b.x, 1, before)
			b.refused(t, c)
		})
	}
}

// P18.2: a Parked one can wait by something else instead, and nothing is left of the wait before; no other one can.
func TestAgain(t *testing.T) {
	for _, k := range kinds {
		for _, p := range []task.Park{{Kind: k.kind}, whole(k.kind), {Kind: k.kind, Obj: -1, Ctx: -1, Reg: -1, Lock: -1, N: -1}} {
			eachWay(t, func(t *testing.T, b *both, w way) {
				c := call{what: again, n: 1, p: p}
				if w.state != task.Parked || !k.may {
					b.refused(t, c)
					return
				}
				before, _ := b.x.Get(1)
				b.done(t, c)
				before.Wait = p
				wantTask(t, b.x, 1, before)
				b.done(t, c)
				wantTask(t, b.x, 1, before)
			})
		}
	}
}

// parts are waits of one kind, each part of which is at each end in turn.
func parts() []task.Park {
	var all []task.Park
	for _, n := range ends {
		all = append(all,
			task.Park{Kind: 1, Obj: n}, task.Park{Kind: 1, Ctx: n}, task.Park{Kind: 1, Reg: n}, task.Park{Kind: 1, Lock: n},
			task.Park{Kind: 1, Obj: n, Ctx: n, Reg: n, Lock: n, N: int64(n)},
		)
	}
	for _, x := range numbers {
		all = append(all, task.Park{Kind: 1, N: x})
	}
	return all
}

// P18.2: the other parts of a wait may be any numbers, and are kept as they are; who waits by them is woken, or ended, and has nothing of them.
func TestParkByAnyNumbers(t *testing.T) {
	for _, p := range parts() {
		b := begun(t, 3, 3)
		b.done(t, call{what: park, n: 0, p: p}, call{what: park, n: 2, p: whole(7)}, call{what: again, n: 2, p: p})
		wantTask(t, b.x, 0, task.Task{State: task.Parked, Prog: 10, Team: -1, Wait: p})
		wantTask(t, b.x, 2, task.Task{State: task.Parked, Prog: 12, Team: 1, Wait: p})
		b.done(t, call{what: wake, n: 0, x: told}, call{what: end, n: 2, x: 5})
		wantTask(t, b.x, 2, task.Task{State: task.Ended, Prog: 12, Team: 1, Err: 5})
		want := task.Task{State: task.Ready, Prog: 10, Team: -1}
		if p.Reg >= 0 && p.Reg < api.MostRegs {
			want.Regs[p.Reg] = told
		}
		wantTask(t, b.x, 0, want)
	}
}

// P18.2: who waits again, or anew, is told into the register of that wait, and not into that of the one before.
func TestWaitsBefore(t *testing.T) {
	for from := -1; from <= api.MostRegs; from++ {
		for to := -1; to <= api.MostRegs; to++ {
			b := begun(t, 2, 2)
			b.done(t,
				call{what: park, n: 0, p: task.Park{Kind: 1, Reg: from}}, call{what: again, n: 0, p: task.Park{Kind: 4, Reg: to}}, call{what: wake, n: 0, x: 8},
				call{what: park, n: 1, p: task.Park{Kind: 1, Reg: from}}, call{what: wake, n: 1, x: 8}, call{what: park, n: 1, p: task.Park{Kind: 4, Reg: to}}, call{what: wake, n: 1, x: 9},
			)
			instead, anew := task.Task{State: task.Ready, Prog: 10, Team: -1}, task.Task{State: task.Ready, Prog: 11}
			instead, _ = written(instead, to, 8)
			anew, _ = written(anew, from, 8)
			anew, _ = written(anew, to, 9)
			wantTask(t, b.x, 0, instead)
			wantTask(t, b.x, 1, anew)
		}
	}
}

// P18.2: an Again of one that isn't parked, or by no kind, leaves it waiting as it was.
func TestAgainThatIsRefused(t *testing.T) {
	b := begun(t, 1, 1)
	p := task.Park{Kind: 2, Obj: 1, Ctx: 3, Reg: 5, Lock: 2, N: 4}
	b.refused(t, call{what: again, p: p})
	b.done(t, call{what: park, p: p})
	for _, kind := range []int{0, -1, math.MinInt} {
		b.refused(t, call{what: again, p: task.Park{Kind: kind, Ctx: 3, Reg: 1}}, call{what: park, p: task.Park{Kind: kind}})
	}
	wantList(t, "Under", 3, b.x.Under(3), 0)
	b.done(t, call{what: wake, x: told})
	wantTask(t, b.x, 0, task.Task{State: task.Ready, Prog: 10, Team: -1, Regs: [6]int64{5: told}})
	b.refused(t, call{what: again, p: p})
	b.done(t, call{what: end})
	b.refused(t, call{what: again, p: p})
}

// P18.2: a Parked one that is woken is Ready, waits no more, and has what it is told in the register that it waited with; no other one is woken.
func TestWake(t *testing.T) {
	for _, x := range numbers {
		eachWay(t, func(t *testing.T, b *both, w way) {
			c := call{what: wake, n: 1, x: x}
			if w.state != task.Parked {
				b.refused(t, c)
				return
			}
			before, _ := b.x.Get(1)
			b.done(t, c)
			before, _ = written(before, before.Wait.Reg, x)
			before.State, before.Wait = task.Ready, task.Park{}
			wantTask(t, b.x, 1, before)
			b.refused(t, c)
		})
	}
}

// P18.2: what is told comes into the wait's register, and into none where there is no such one; the others stay.
func TestWakeIntoRegisters(t *testing.T) {
	full := [6]int64{100, 101, 102, 103, 104, 105}
	filled := func(t *testing.T) *both {
		b := begun(t, 1, 1)
		for reg, x := range full {
			b.done(t, call{what: set, i: reg, x: x})
		}
		return b
	}
	for reg := range api.MostRegs {
		for _, x := range numbers {
			b := filled(t)
			b.done(t, call{what: park, p: task.Park{Kind: 1, Reg: reg}})
			wantTask(t, b.x, 0, task.Task{State: task.Parked, Prog: 10, Team: -1, Regs: full, Wait: task.Park{Kind: 1, Reg: reg}})
			b.done(t, call{what: wake, x: x})
			regs := full
			regs[reg] = x
			wantTask(t, b.x, 0, task.Task{State: task.Ready, Prog: 10, Team: -1, Regs: regs})
		}
	}
	for _, reg := range noRegs {
		b := filled(t)
		b.done(t, call{what: park, p: task.Park{Kind: 1, Reg: reg}}, call{what: wake, x: told})
		wantTask(t, b.x, 0, task.Task{State: task.Ready, Prog: 10, Team: -1, Regs: full})
	}
}

// P18.2: what is set while one waits stays, but for what it is told into.
func TestSetWhileParked(t *testing.T) {
	b := begun(t, 1, 1)
	b.done(t,
		call{what: set, i: 0, x: 1}, call{what: park, p: task.Park{Kind: 1, Reg: 2}},
		call{what: set, i: 0, x: 10}, call{what: set, i: 2, x: 12}, call{what: set, i: 5, x: 15},
	)
	wantTask(t, b.x, 0, task.Task{State: task.Parked, Prog: 10, Team: -1, Regs: [6]int64{10, 0, 12, 0, 0, 15}, Wait: task.Park{Kind: 1, Reg: 2}})
	b.done(t, call{what: wake, x: 7})
	wantTask(t, b.x, 0, task.Task{State: task.Ready, Prog: 10, Team: -1, Regs: [6]int64{10, 0, 7, 0, 0, 15}})
}

// P18.2: each one that isn't Ended can be ended, by any error, and waits no more; its place and registers stay.
func TestEnd(t *testing.T) {
	for _, x := range numbers {
		eachWay(t, func(t *testing.T, b *both, w way) {
			c := call{what: end, n: 1, x: x}
			if w.state == task.Ended {
				b.refused(t, c)
				return
			}
			before, _ := b.x.Get(1)
			b.done(t, c)
			before.State, before.Wait, before.Err = task.Ended, task.Park{}, x
			wantTask(t, b.x, 1, before)
			b.refused(t, c, call{what: end, n: 1, x: x + 1})
		})
	}
}

// P18.3: all tasks of a state are told, rising, in whatever order they came to it; there are no other states.
func TestIn(t *testing.T) {
	b := begun(t, 9, 9)
	wantList(t, "In", 1, b.x.In(1), 0, 1, 2, 3, 4, 5, 6, 7, 8)
	for _, n := range []int{7, 2, 4, 0} {
		b.done(t, call{what: park, n: n, p: whole(n + 1)})
	}
	for _, n := range []int{8, 4, 1} {
		b.done(t, call{what: end, n: n, x: 1})
	}
	wantList(t, "In", 1, b.x.In(task.Ready), 3, 5, 6)
	wantList(t, "In", 2, b.x.In(task.Parked), 0, 2, 7)
	wantList(t, "In", 3, b.x.In(task.Ended), 1, 4, 8)
	for _, state := range append([]int{0, 4, -1, -2, -3, 1<<32 + 1, 1<<8 + 1, 1<<16 + 1}, ends[6:]...) {
		wantList(t, "In", state, b.x.In(state))
	}
	b.done(t, call{what: wake, n: 2}, call{what: wake, n: 0})
	wantList(t, "In", 1, b.x.In(task.Ready), 0, 2, 3, 5, 6)
	wantList(t, "In", 2, b.x.In(task.Parked), 7)
}

// P18.3: in a table all of whose tasks are in one state, all are told, and in one of none, none.
func TestInOfAll(t *testing.T) {
	for _, w := range ways() {
		for _, many := range []int{0, 1, 2, 199, 200} {
			b := begun(t, 200, many)
			var all []int
			for n := range many {
				b.walk(t, n, w)
				all = append(all, n)
			}
			for state := -1; state <= 5; state++ {
				if state == w.state {
					wantList(t, "In", state, b.x.In(state), all...)
				} else {
					wantList(t, "In", state, b.x.In(state))
				}
			}
		}
	}
}

// under parks tasks under these contexts, one behind the other.
func under(t *testing.T, ctxs ...int) *both {
	t.Helper()
	b := begun(t, 200, len(ctxs))
	for n, ctx := range ctxs {
		b.done(t, call{what: park, n: n, p: task.Park{Kind: n%11 + 1, Ctx: ctx}})
	}
	return b
}

// P18.3: all that are parked under a context are told, rising, and nobody else.
func TestUnder(t *testing.T) {
	b := under(t, 5, 0, -1, 5, 7, math.MaxInt, 0, 5, math.MinInt, -5)
	b.done(t, call{what: begin}, call{what: begin, n: 5, i: 5})
	wantList(t, "Under", 5, b.x.Under(5), 0, 3, 7)
	wantList(t, "Under", 0, b.x.Under(0), 1, 6)
	wantList(t, "Under", 7, b.x.Under(7), 4)
	wantList(t, "Under", math.MaxInt, b.x.Under(math.MaxInt), 5)
	for _, ctx := range []int{-1, -5, math.MinInt, math.MinInt + 1, 1, 2, 4, 6, 8, math.MaxInt - 1, 1<<8 + 5, 1<<16 + 5, 1<<32 + 5, 1 << 32} {
		wantList(t, "Under", ctx, b.x.Under(ctx))
	}
}

// P18.3: neither Ready nor Ended ones are under any context, though the zero wait's Ctx is 0.
func TestUnderOfNone(t *testing.T) {
	b := begun(t, 5, 5)
	b.done(t, call{what: end, n: 1, x: 3}, call{what: park, n: 2, p: task.Park{Kind: 1, Ctx: -1}}, call{what: park, n: 3, p: whole(1)}, call{what: wake, n: 3})
	for _, ctx := range ends {
		wantList(t, "Under", ctx, b.x.Under(ctx))
	}
	b.done(t, call{what: park, n: 4, p: task.Park{Kind: 1}})
	wantList(t, "Under", 0, b.x.Under(0), 4)
}

// P18.3: whoever was woken, ended, or waits by something else, is not under the context that he waited under.
func TestUnderNoMore(t *testing.T) {
	for _, ctx := range []int{0, 1, 5, math.MaxInt} {
		b := under(t, ctx, ctx, ctx, ctx, ctx)
		wantList(t, "Under", ctx, b.x.Under(ctx), 0, 1, 2, 3, 4)
		b.done(t, call{what: wake, n: 3})
		wantList(t, "Under", ctx, b.x.Under(ctx), 0, 1, 2, 4)
		b.done(t, call{what: end, n: 0})
		wantList(t, "Under", ctx, b.x.Under(ctx), 1, 2, 4)
		b.done(t, call{what: again, n: 2, p: task.Park{Kind: 3, Ctx: -1}})
		wantList(t, "Under", ctx, b.x.Under(ctx), 1, 4)
		b.done(t, call{what: again, n: 1, p: task.Park{Kind: 3, Ctx: 9}})
		wantList(t, "Under", ctx, b.x.Under(ctx), 4)
		wantList(t, "Under", 9, b.x.Under(9), 1)
		b.done(t, call{what: end, n: 3}, call{what: again, n: 2, p: task.Park{Kind: 2, Ctx: ctx}})
		wantList(t, "Under", ctx, b.x.Under(ctx), 2, 4)
		b.done(t, call{what: wake, n: 4}, call{what: park, n: 4, p: task.Park{Kind: 1, Ctx: 9}})
		wantList(t, "Under", ctx, b.x.Under(ctx), 2)
		wantList(t, "Under", 9, b.x.Under(9), 1, 4)
	}
}

// every is each call of a task that changes it, where it may be done and where it may not.
func every(n int) []call {
	all := callsOf(n)
	for _, reg := range []int{-1, 0, 5, 6} {
		all = append(all, call{what: set, n: n, i: reg, x: -8}, call{what: park, n: n, p: task.Park{Kind: 4, Ctx: reg, Reg: reg}}, call{what: again, n: n, p: task.Park{Kind: 9, Ctx: reg, Reg: reg}})
	}
	return append(all,
		call{what: goTo, n: n}, call{what: park, n: n}, call{what: again, n: n}, call{what: park, n: n, p: whole(-1)}, call{what: again, n: n, p: whole(-1)},
		call{what: wake, n: n}, call{what: end, n: n},
	)
}

// P18.4: who is ended stays so, as he is, whatever is asked of him and of others.
func TestEndedStays(t *testing.T) {
	for _, w := range ways() {
		if w.state != task.Ended {
			continue
		}
		b := begun(t, 4, 3)
		b.walk(t, 1, w)
		is, _ := b.x.Get(1)
		for _, c := range append(every(1), every(2)...) {
			if done := b.do(t, c); done && c.n == 1 {
				t.Errorf("%s: %s of %+v is done", w.name, names[c.what], c)
			}
			wantTask(t, b.x, 1, is)
		}
		b.done(t, call{what: begin})
		wantTask(t, b.x, 1, is)
		wantList(t, "In", 3, b.x.In(task.Ended), 1, 2)
	}
}

// P18.4: who is parked stays parked, and where he is, till he is woken or ended.
func TestParkedDoesNothing(t *testing.T) {
	for _, w := range ways() {
		if w.state != task.Parked {
			continue
		}
		b := begun(t, 3, 3)
		b.walk(t, 1, w)
		is, _ := b.x.Get(1)
		for _, c := range append(every(1), every(0)...) {
			if c.n == 1 && (c.what == wake || c.what == end) {
				continue
			}
			done := b.do(t, c)
			if done && c.n == 1 && (c.what == goTo || c.what == park) {
				t.Errorf("%s: %s of %+v is done", w.name, names[c.what], c)
			}
			if x, _ := b.x.Get(1); x.State != task.Parked || x.At != is.At || x.Prog != is.Prog || x.Team != is.Team || x.Err != 0 {
				t.Errorf("%s: behind %s of %+v it is %+v", w.name, names[c.what], c, x)
			}
		}
		b.done(t, call{what: wake, n: 1}, call{what: goTo, n: 1, i: 3}, call{what: park, n: 1, p: whole(1)}, call{what: end, n: 1})
	}
}

// P18.4: what is done with one task changes nothing of another one, whatever that is.
func TestTasksApart(t *testing.T) {
	for _, other := range ways() {
		for _, own := range ways() {
			for at := range 3 {
				for _, c := range every(at) {
					b := begun(t, 3, 3)
					for n := range 3 {
						if n == at {
							b.walk(t, n, own)
						} else {
							b.walk(t, n, other)
						}
					}
					before := b.m.clone()
					b.do(t, c)
					for n, is := range before.tasks {
						if n != at {
							wantTask(t, b.x, n, is)
						}
					}
				}
			}
		}
	}
}

// P18.4: each of as many tasks as may be has registers, a place and a wait of its own.
func TestManyTasks(t *testing.T) {
	b := begun(t, 200, 200)
	for n := range 200 {
		b.do(t, call{what: goTo, n: n, i: 1000 + n})
		for reg := range api.MostRegs {
			b.do(t, call{what: set, n: n, i: reg, x: int64(n*10 + reg)})
		}
		b.do(t, call{what: park, n: n, p: task.Park{Kind: n + 1, Obj: -n, Ctx: n % 24, Reg: n % 8, Lock: n * 2, N: int64(n * n)}})
	}
	b.stands(t)
	for n := range 200 {
		want := task.Task{State: task.Parked, Prog: 10 + n, At: 1000 + n, Team: n - 1, Wait: task.Park{Kind: n + 1, Obj: -n, Ctx: n % 24, Reg: n % 8, Lock: n * 2, N: int64(n * n)}}
		for reg := range want.Regs {
			want.Regs[reg] = int64(n*10 + reg)
		}
		wantTask(t, b.x, n, want)
	}
	for n := 199; n >= 0; n -= 3 {
		b.do(t, call{what: wake, n: n, x: int64(-n)})
		b.do(t, call{what: end, n: n - 1, x: int64(n)})
	}
	b.stands(t)
}

// R3: a task that was told may be changed by whoever got it, and stays as it was, whatever is done later.
func TestToldTasksAreNew(t *testing.T) {
	eachWay(t, func(t *testing.T, b *both, w way) {
		x, _ := b.x.Get(1)
		kept := x
		x.State, x.Prog, x.At, x.Team, x.Err, x.Wait = 9, 99, 999, 9999, 5, task.Park{Kind: 8, Ctx: 8}
		for reg := range x.Regs {
			x.Regs[reg] = -1000
		}
		regs := x.Regs[:]
		regs[0] = -2000
		b.stands(t)
		wantTask(t, b.x, 1, kept)
		for _, c := range every(1) {
			again, _ := b.x.Get(1)
			before := again
			b.do(t, c)
			if again != before {
				t.Errorf("%s of %+v: what was told is %+v, was %+v", names[c.what], c, again, before)
			}
		}
		if got, want := [...]int64{x.Regs[0], x.Regs[5]}, [...]int64{-2000, -1000}; got != want {
			t.Errorf("what was told has %v", got)
		}
		none, _ := b.x.Get(3)
		none.State, none.Regs[0] = 1, 5
		wantNone(t, b.x, 3)
	})
}

// R3: lists that were told may be changed, or grown, by whoever got them.
func TestListsAreNew(t *testing.T) {
	b := under(t, 3, 4, 3, 3, -1, 3, 0)
	b.done(t, call{what: end, n: 1}, call{what: wake, n: 2}, call{what: begin})
	spoil := func(tell func() []int) {
		t.Helper()
		first := tell()
		kept := slices.Clone(first)
		_ = append(first, 99)
		for l := first[:cap(first)]; len(l) > 0; l = l[1:] {
			l[0] = -9
		}
		b.stands(t)
		if second := tell(); !slices.Equal(second, kept) {
			t.Errorf("%v, want %v", second, kept)
		}
	}
	for state := range 5 {
		spoil(func() []int { return b.x.In(state) })
	}
	for ctx := -1; ctx < 6; ctx++ {
		spoil(func() []int { return b.x.Under(ctx) })
	}
}

// R3: lists that were told stay as they were, whatever is done later.
func TestListsStay(t *testing.T) {
	b := under(t, 3, 4, 3, 3, -1)
	b.done(t, call{what: begin})
	parked, ready, below := b.x.In(task.Parked), b.x.In(task.Ready), b.x.Under(3)
	b.done(t, call{what: wake, n: 0}, call{what: end, n: 2}, call{what: again, n: 3, p: task.Park{Kind: 1, Ctx: 4}}, call{what: begin}, call{what: park, n: 5, p: task.Park{Kind: 1, Ctx: 3}})
	if l := b.x.Under(3); !slices.Equal(l, []int{5}) {
		t.Errorf("Under(3) = %v", l)
	}
	wantList(t, "the first In", 2, parked, 0, 1, 2, 3, 4)
	wantList(t, "the first In", 1, ready, 5)
	wantList(t, "the first Under", 3, below, 0, 2, 3)
}

// R3: a wait that is passed in is left as it was, and what becomes of it later changes no task.
func TestWaitsArePassedIn(t *testing.T) {
	b := begun(t, 2, 2)
	p := whole(2)
	b.done(t, call{what: park, n: 0, p: p}, call{what: park, n: 1, p: task.Park{Kind: 1}}, call{what: again, n: 1, p: p})
	wantDone(t, "Park of a parked one", b.x.Park(0, p), false)
	if p != whole(2) {
		t.Errorf("the wait is %+v", p)
	}
	p.Kind, p.Ctx, p.Reg = 7, 8, 0
	b.stands(t)
	wantList(t, "Under", 3, b.x.Under(3), 0, 1)
	wantList(t, "Under", 8, b.x.Under(8))
	wantDone(t, "Again", b.x.Again(0, p), true)
	wantDone(t, "Wake", b.x.Wake(0, 5), true)
	if p != (task.Park{Kind: 7, Obj: 102, Ctx: 8, Lock: 105, N: 106}) {
		t.Errorf("the wait is %+v", p)
	}
	wantTask(t, b.x, 0, task.Task{State: task.Ready, Prog: 10, Team: -1, Regs: [6]int64{5}})
}

// R5: tables have nothing of each other.
func TestTablesApart(t *testing.T) {
	for _, w := range ways() {
		a, b := pair(t, 2), pair(t, 3)
		a.done(t, call{what: begin, n: 1, i: 2}, call{what: begin, n: 3, i: 4})
		b.stands(t)
		b.done(t, call{what: begin, n: 5, i: 6})
		a.stands(t)
		a.walk(t, 0, w)
		a.stands(t)
		b.stands(t)
		wantTask(t, b.x, 0, task.Task{State: task.Ready, Prog: 5, Team: 6})
		for _, c := range every(0) {
			b.do(t, c)
			b.stands(t)
			a.stands(t)
		}
		a.refused(t, call{what: begin})
		b.done(t, call{what: begin}, call{what: begin})
		b.refused(t, call{what: begin})
		a.stands(t)
	}
}

// P18.1 to P18.3: Len, Get, In and Under are asked, and change nothing.
func TestAskedOften(t *testing.T) {
	eachWay(t, func(t *testing.T, b *both, w way) {
		for range 5 {
			b.stands(t)
			for _, n := range ends {
				b.x.Get(n)
				b.x.In(n)
				b.x.Under(n)
			}
		}
	})
}

// P18.1 to P18.4: every three calls of tables of two tasks, the second of whom isn't begun but by one of them.
func TestShortWays(t *testing.T) {
	var calls []call
	for n := range 2 {
		calls = append(calls, callsOf(n)...)
		calls = append(calls,
			call{what: set, n: n, i: 6, x: 1}, call{what: park, n: n, p: task.Park{Kind: 1}}, call{what: park, n: n, p: task.Park{}},
			call{what: again, n: n, p: task.Park{Kind: 6, Ctx: -1, Reg: -1}}, call{what: again, n: n, p: task.Park{Ctx: 1}},
		)
	}
	calls = append(calls, call{what: begin, n: 4, i: -1})
	for _, a := range calls {
		for _, b := range calls {
			for _, c := range calls {
				x := begun(t, 2, 1)
				for _, one := range []call{a, b, c} {
					x.do(t, one)
				}
				x.stands(t)
				if t.Failed() {
					t.Fatalf("behind %+v, %+v, %+v", a, b, c)
				}
			}
		}
	}
}

// P18.2: each call of a task, behind each other call of it, on each way on which it can come to stand.
func TestTwoCalls(t *testing.T) {
	for _, w := range ways() {
		for _, first := range every(0) {
			for _, second := range every(0) {
				b := begun(t, 1, 1)
				b.walk(t, 0, w)
				b.do(t, first)
				b.do(t, second)
				b.stands(t)
				if t.Failed() {
					t.Fatalf("%s, behind %+v, %+v", w.name, first, second)
				}
			}
		}
	}
}

// randomCall tells a call of a way; few tasks are ended by it, so that ways are long.
func randomCall(r *rand.Rand, most int) call {
	pick := func(near int) int {
		if r.Intn(12) == 0 {
			return ends[r.Intn(len(ends))]
		}
		return r.Intn(near+2) - 1
	}
	number := func() int64 {
		if r.Intn(2) == 0 {
			return numbers[r.Intn(len(numbers))]
		}
		return int64(r.Uint64())
	}
	c := call{n: pick(most), i: pick(api.MostRegs), x: number()}
	c.p = task.Park{Kind: pick(11), Obj: pick(4), Ctx: pick(4), Reg: pick(api.MostRegs), Lock: pick(4), N: number()}
	switch k := r.Intn(40); {
	case k < 3:
		c.what = begin
	case k < 39:
		c.what = goTo + k%5
	default:
		c.what = end
	}
	return c
}

// story is what was done with a task, in order.
type story []call

// mayBe holds a story against P18.4: nothing is done behind its end, and of one that is parked nothing but what the document lets be.
func (s story) mayBe(t *testing.T) {
	t.Helper()
	parked := false
	for i, c := range s {
		switch c.what {
		case goTo:
			if parked {
				t.Errorf("step %d: one that is parked goes", i)
			}
		case park, again, wake:
			if parked != (c.what != park) {
				t.Errorf("step %d: %s, is it parked? %t", i, names[c.what], parked)
			}
			parked = c.what != wake
		case end:
			if i != len(s)-1 {
				t.Errorf("step %d is the end, of %d", i, len(s))
			}
		}
	}
}

// alone is the task of a story that happens in a table of one task.
func (s story) alone(t *testing.T, prog, team int) task.Task {
	t.Helper()
	x := made(t, 1)
	x.Begin(prog, team)
	for i, c := range s {
		c.n = 0
		wantDone(t, names[c.what], ask(x, c), true)
		if t.Failed() {
			t.Fatalf("step %d alone: %+v", i, c)
		}
	}
	is, _ := x.Get(0)
	return is
}

// P18.1 to P18.4, on long ways: tables tell what their models tell.
func TestLongWays(t *testing.T) {
	for _, most := range []int{1, 2, 3, 16, 60, 200} {
		for seed := range int64(30) {
			r := rand.New(rand.NewSource(seed*1000 + int64(most)))
			b := pair(t, most)
			for step := range 20*most + 100 {
				c := randomCall(r, most)
				b.do(t, c)
				if step%(1+most/2) == 0 {
					b.stands(t)
				}
				if t.Failed() {
					t.Fatalf("most %d, seed %d, step %d: %+v", most, seed, step, c)
				}
			}
			b.stands(t)
		}
	}
}

// P18.4: each task is what was done with it, as if it were alone, whatever was done with the others.
func TestStories(t *testing.T) {
	for seed := range int64(60) {
		const most = 6
		r := rand.New(rand.NewSource(seed))
		x := made(t, most)
		var stories [most]story
		for range 400 {
			c := randomCall(r, most)
			if c.what == begin {
				x.Begin(x.Len()*7, x.Len()-2)
			} else if ask(x, c) {
				stories[c.n] = append(stories[c.n], c)
			}
		}
		for n := range x.Len() {
			stories[n].mayBe(t)
			wantTask(t, x, n, stories[n].alone(t, n*7, n-2))
		}
		if t.Failed() {
			t.Fatalf("seed %d", seed)
		}
	}
}

// R4: the same calls tell the same.
func TestTwins(t *testing.T) {
	for seed := range int64(40) {
		a, b := made(t, 16), made(t, 16)
		ra, rb := rand.New(rand.NewSource(seed)), rand.New(rand.NewSource(seed))
		for range 400 {
			c, d := randomCall(ra, 16), randomCall(rb, 16)
			if c.what == begin {
				n, e := a.Begin(c.n, c.i)
				if m, f := b.Begin(d.n, d.i); m != n || f != e {
					t.Fatalf("seed %d: Begin = %d, %d, then %d, %d", seed, n, e, m, f)
				}
				continue
			}
			if first, second := ask(a, c), ask(b, d); first != second {
				t.Fatalf("seed %d: %s of %+v = %t, then %t", seed, names[c.what], c, first, second)
			}
		}
		for n := range 16 {
			x, _ := a.Get(n)
			wantTask(t, b, n, x)
			wantList(t, "Under", n, b.Under(n), a.Under(n)...)
			wantList(t, "In", n, b.In(n), a.In(n)...)
		}
	}
}
