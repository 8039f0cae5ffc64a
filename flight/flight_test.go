package flight_test

import (
	"fmt"
	"math"
	"math/rand"
	"slices"
	"testing"

	"countermand/api"
	"countermand/flight"
)

const (
	least = math.MinInt64
	top   = math.MaxInt64
)

// call is a call as plainly as the document says it.
type call struct {
	key             int64
	leader          int
	joined          []int
	forgotten, over bool
}

// model is a flight as plainly as the document says it: all calls that there were, in the order in which they were begun.
type model struct {
	tasks int
	begun []call
}

func fresh(tasks int) *model { return &model{tasks: tasks} }

func (m *model) clone() *model {
	c := &model{m.tasks, slices.Clone(m.begun)}
	for i := range c.begun {
		c.begun[i].joined = slices.Clone(c.begun[i].joined)
	}
	return c
}

func (m *model) hasTask(t int) bool { return 0 <= t && t < m.tasks }

// callOf is the last call that was begun of a key, if it isn't over, nor was forgotten.
func (m *model) callOf(key int64) *call {
	for i := len(m.begun) - 1; i >= 0; i-- {
		if c := &m.begun[i]; c.key == key {
			if c.over || c.forgotten {
				return nil
			}
			return c
		}
	}
	return nil
}

// leader is who leads the call of a key.
func (m *model) leader(key int64) int {
	if c := m.callOf(key); c != nil {
		return c.leader
	}
	return -1
}

// led is the call that a task leads.
func (m *model) led(t int) *call {
	for i := range m.begun {
		if c := &m.begun[i]; !c.over && c.leader == t {
			return c
		}
	}
	return nil
}

// joined is the call that a task joins.
func (m *model) joined(t int) *call {
	for i := range m.begun {
		if c := &m.begun[i]; !c.over && slices.Contains(c.joined, t) {
			return c
		}
	}
	return nil
}

func (m *model) do(t int, key int64) (int, api.Errno) {
	switch {
	case !m.hasTask(t):
		return -1, api.ErrName
	case m.joined(t) != nil:
		return -1, api.ErrWaits
	case m.led(t) != nil:
		return -1, api.ErrHeld
	}
	if c := m.callOf(key); c != nil {
		c.joined = append(slices.Clone(c.joined), t)
		return c.leader, api.OK
	}
	m.begun = append(m.begun, call{key: key, leader: t})
	return t, api.OK
}

func (m *model) finish(t int) ([]int, api.Errno) {
	if !m.hasTask(t) {
		return nil, api.ErrName
	}
	c := m.led(t)
	if c == nil {
		return nil, api.ErrHeld
	}
	c.over = true
	return c.joined, api.OK
}

func (m *model) forget(key int64) bool {
	c := m.callOf(key)
	if c == nil {
		return false
	}
	c.forgotten = true
	return true
}

func (m *model) leave(t int) bool {
	c := m.joined(t)
	if c == nil {
		return false
	}
	c.joined = without(c.joined, t)
	return true
}

// without is a list without one of its numbers.
func without(list []int, t int) []int {
	return slices.DeleteFunc(slices.Clone(list), func(n int) bool { return n == t })
}

// outside are numbers of which there is no task, where there are so many.
func outside(many int) []int {
	return []int{
		-1, many, -2, many + 1, 999 + many, 1000 + many, 1 << 16, 1<<16 - 1, 1 << 32, 1<<32 + 1, -1 << 16, -1 << 32,
		math.MinInt, math.MinInt + 1, math.MaxInt, math.MaxInt - 1,
	}
}

// keys are those that are asked for: some of them are the same but for their upper half, or but for their sign.
func keys() []int64 {
	return []int64{
		0, 1, -1, 7, -7, 8, 1 << 31, -1 << 31, 1 << 32, 1<<32 + 7, -1 << 32, -1<<32 + 7, least, least + 1, least + 7, top, top - 1,
	}
}

func made(t *testing.T, tasks int) *flight.Flight {
	t.Helper()
	x, e := flight.New(tasks)
	if x == nil || e != api.OK {
		t.Fatalf("New(%d) = %v, %d", tasks, x, e)
	}
	return x
}

func wantDo(t *testing.T, x *flight.Flight, task int, key int64, leader int, want api.Errno) {
	t.Helper()
	if n, e := x.Do(task, key); n != leader || e != want {
		t.Errorf("Do(%d, %d) = %d, %d, want %d, %d", task, key, n, e, leader, want)
	}
}

func wantFinish(t *testing.T, x *flight.Flight, task int, want api.Errno, told ...int) {
	t.Helper()
	if l, e := x.Finish(task); !slices.Equal(l, told) || e != want {
		t.Errorf("Finish(%d) = %v, %d, want %v, %d", task, l, e, told, want)
	}
}

func wantForget(t *testing.T, x *flight.Flight, key int64, want bool) {
	t.Helper()
	if is := x.Forget(key); is != want {
		t.Errorf("Forget(%d) = %t, want %t", key, is, want)
	}
}

func wantLeave(t *testing.T, x *flight.Flight, task int, want bool) {
	t.Helper()
	if is := x.Leave(task); is != want {
		t.Errorf("Leave(%d) = %t, want %t", task, is, want)
	}
}

// wantLeader asks who leads the calls of keys, and holds it against one task, or -1.
func wantLeader(t *testing.T, x *flight.Flight, leader int, keys ...int64) {
	t.Helper()
	for _, key := range keys {
		if n := x.Leader(key); n != leader {
			t.Errorf("Leader(%d) = %d, want %d", key, n, leader)
		}
	}
}

// wantJoins lets these join the call of a key, of whom none leads or joins one, and which another one leads.
func wantJoins(t *testing.T, x *flight.Flight, key int64, leader int, tasks ...int) {
	t.Helper()
	for _, n := range tasks {
		wantDo(t, x, n, key, leader, api.OK)
	}
}

// wantNothing asks what a task does that neither leads nor joins a call, or that isn't there.
func wantNothing(t *testing.T, x *flight.Flight, task int) {
	t.Helper()
	wantTask(t, x, task, nil, nil)
}

// wantTask holds what a task is told to do against the call that it leads, and the one that it joins.
func wantTask(t *testing.T, x *flight.Flight, task int, led, joined *call) {
	t.Helper()
	var key int64
	var behind []int
	over := -1
	if led != nil {
		key, behind = led.key, led.joined
	}
	if joined != nil {
		over = joined.leader
	}
	if n, is := x.Leads(task); n != key || is != (led != nil) {
		t.Errorf("Leads(%d) = %d, %t, want %d, %t", task, n, is, key, led != nil)
	}
	if n := x.Joins(task); n != over {
		t.Errorf("Joins(%d) = %d, want %d", task, n, over)
	}
	if l := x.Joined(task); !slices.Equal(l, behind) {
		t.Errorf("Joined(%d) = %v, want %v", task, l, behind)
	}
}

// stands holds all that a flight tells against its model.
func stands(t *testing.T, x *flight.Flight, m *model) {
	t.Helper()
	leaders := map[int64]int{}
	led, joined := make([]*call, m.tasks), make([]*call, m.tasks)
	for i := range m.begun {
		c := &m.begun[i]
		leaders[c.key] = -1
		if c.over {
			continue
		}
		if !c.forgotten {
			leaders[c.key] = c.leader
		}
		led[c.leader] = c
		for _, n := range c.joined {
			joined[n] = c
		}
	}
	for _, key := range keys() {
		if _, is := leaders[key]; !is {
			leaders[key] = -1
		}
	}
	for key, leader := range leaders {
		wantLeader(t, x, leader, key)
	}
	for n := range m.tasks {
		wantTask(t, x, n, led[n], joined[n])
	}
	wantNothing(t, x, -1)
	wantNothing(t, x, m.tasks)
}

// What changes a flight.
const (
	do = iota
	finish
	forget
	leave
)

// step is one of these, and what it is given: a task, a key, or both.
type step struct {
	what, task int
	key        int64
}

// answers makes a step of a flight and of its model, and holds what they answer against each other.
func answers(t *testing.T, x *flight.Flight, m *model, s step) {
	t.Helper()
	switch s.what {
	case do:
		leader, e := m.do(s.task, s.key)
		wantDo(t, x, s.task, s.key, leader, e)
	case finish:
		told, e := m.finish(s.task)
		wantFinish(t, x, s.task, e, told...)
	case forget:
		wantForget(t, x, s.key, m.forget(s.key))
	case leave:
		wantLeave(t, x, s.task, m.leave(s.task))
	}
}

// goes makes steps of a flight and of its model, and holds what they answer, and how they stand then, against each other.
func goes(t *testing.T, x *flight.Flight, m *model, steps ...step) {
	t.Helper()
	for _, s := range steps {
		answers(t, x, m, s)
		stands(t, x, m)
	}
}

// given is a flight of so many tasks that has gone some way, and its model.
func given(t *testing.T, tasks int, way ...step) (*flight.Flight, *model) {
	t.Helper()
	x, m := made(t, tasks), fresh(tasks)
	for _, s := range way {
		answers(t, x, m, s)
	}
	stands(t, x, m)
	return x, m
}

// place is how a flight stands, and a way to it.
type place struct {
	m   *model
	way []step
}

func (p place) make(t *testing.T) (*flight.Flight, *model) {
	t.Helper()
	return given(t, p.m.tasks, p.way...)
}

// stepsOf are all steps of a flight of so many tasks, with these keys, be they right or wrong.
func stepsOf(tasks int, keys ...int64) []step {
	var all []step
	for task := -1; task <= tasks; task++ {
		all = append(all, step{finish, task, 0}, step{leave, task, 0})
		for _, key := range keys {
			all = append(all, step{do, task, key})
		}
	}
	for _, key := range keys {
		all = append(all, step{forget, 0, key})
	}
	return all
}

// places are all ways to stand of a flight of so many tasks, with calls of these keys, each with a shortest way to it.
func places(tasks int, keys ...int64) []place {
	all, seen := []place{{fresh(tasks), nil}}, map[string]bool{looks(fresh(tasks)): true}
	for from := 0; from < len(all); from++ {
		for _, s := range stepsOf(tasks, keys...) {
			m := all[from].m.clone()
			after(m, s)
			if look := looks(m); !seen[look] {
				seen[look] = true
				all = append(all, place{m, append(slices.Clone(all[from].way), s)})
			}
		}
	}
	return all
}

// after makes a step of a model alone, and tells its error.
func after(m *model, s step) api.Errno {
	e := api.OK
	switch s.what {
	case do:
		_, e = m.do(s.task, s.key)
	case finish:
		_, e = m.finish(s.task)
	case forget:
		m.forget(s.key)
	case leave:
		m.leave(s.task)
	}
	return e
}

// looks is how a model stands: the same text, if no step tells two of them apart.
func looks(m *model) string {
	look := ""
	for t := range m.tasks {
		if c := m.led(t); c != nil {
			look += fmt.Sprint(t, c.key, c.forgotten, c.joined, ";")
		}
	}
	return look
}

// arrangements are all rows that these tasks can make, or some of them.
func arrangements(tasks ...int) [][]int {
	all := [][]int{nil}
	for from := 0; from < len(all); from++ {
		for _, n := range tasks {
			if row := all[from]; !slices.Contains(row, n) {
				all = append(all, append(slices.Clone(row), n))
			}
		}
	}
	return all
}

// The document's example.
func TestExample(t *testing.T) {
	x := made(t, 4)
	wantDo(t, x, 1, 7, 1, api.OK)
	wantDo(t, x, 2, 7, 1, api.OK)
	wantForget(t, x, 7, true)
	wantDo(t, x, 3, 7, 3, api.OK)
	stands(t, x, &model{4, []call{{key: 7, leader: 1, joined: []int{2}, forgotten: true}, {key: 7, leader: 3}}})
	wantFinish(t, x, 1, api.OK, 2)
	stands(t, x, &model{4, []call{{key: 7, leader: 3}}})
}

// P15.1: of each size that there may be, without calls; just those tasks are there, and each may lead, and join.
func TestNew(t *testing.T) {
	for _, tasks := range []int{1, 2, 3, 16, 255, 256, 257, 999, 1000} {
		x := made(t, tasks)
		stands(t, x, fresh(tasks))
		for _, n := range outside(tasks) {
			wantDo(t, x, n, 7, -1, api.ErrName)
			wantFinish(t, x, n, api.ErrName)
			wantLeave(t, x, n, false)
			wantNothing(t, x, n)
		}
		stands(t, x, fresh(tasks))
		for n := range tasks {
			wantFinish(t, x, n, api.ErrHeld)
			wantLeave(t, x, n, false)
			wantDo(t, x, n, 7, n, api.OK)
			if other := tasks - 1 - n; other != n {
				wantDo(t, x, other, 7, n, api.OK)
				wantFinish(t, x, n, api.OK, other)
			} else {
				wantFinish(t, x, n, api.OK)
			}
		}
		stands(t, x, fresh(tasks))
	}
}

// P15.1
func TestNewOfWrongSizes(t *testing.T) {
	for _, tasks := range []int{
		0, -1, -2, -1000, 1001, 1002, 2000, 1 << 16, 1<<16 + 1, 1 << 32, 1<<32 + 1, -1 << 32, math.MinInt, math.MinInt + 1, math.MaxInt,
	} {
		if x, e := flight.New(tasks); x != nil || e != api.ErrArg {
			t.Errorf("New(%d) = %v, %d, want nil, %d", tasks, x, e, api.ErrArg)
		}
	}
}

// P15.1: who leads the call of a key is told, and of which key it is, whichever key and whichever task: the key 0 and the task 0 too.
func TestLeaderAndLeads(t *testing.T) {
	for _, key := range keys() {
		for _, n := range []int{0, 1, 500, 998, 999} {
			x := made(t, 1000)
			wantLeader(t, x, -1, keys()...)
			wantNothing(t, x, n)
			wantDo(t, x, n, key, n, api.OK)
			for range 3 {
				for _, other := range keys() {
					if other != key {
						wantLeader(t, x, -1, other)
					}
				}
				wantLeader(t, x, n, key)
				wantTask(t, x, n, &call{key: key}, nil)
				wantNothing(t, x, (n+1)%1000)
			}
			wantForget(t, x, key, true)
			wantLeader(t, x, -1, keys()...)
			wantTask(t, x, n, &call{key: key}, nil)
			wantFinish(t, x, n, api.OK)
			wantLeader(t, x, -1, keys()...)
			wantNothing(t, x, n)
		}
	}
}

// P15.1: each key has a call of its own, which is told of none but it.
func TestKeysHaveCallsOfTheirOwn(t *testing.T) {
	x, m := made(t, 40), fresh(40)
	for i, key := range keys() {
		goes(t, x, m, step{do, i, key})
	}
	for i, key := range keys() {
		wantDo(t, x, 39-i, key, i, api.OK)
		wantTask(t, x, 39-i, nil, &m.begun[i])
	}
	for i, key := range keys() {
		wantLeader(t, x, i, key)
		wantTask(t, x, i, &call{key: key, joined: []int{39 - i}}, nil)
	}
	for i, key := range keys() {
		wantFinish(t, x, i, api.OK, 39-i)
		wantLeader(t, x, -1, keys()[:i+1]...)
		for j, later := range keys()[i+1:] {
			wantLeader(t, x, i+1+j, later)
		}
		wantForget(t, x, key, false)
	}
	stands(t, x, fresh(40))
}

// P15.1: whose call one joins is told, and who joins, in the order in which they came, not in that of their numbers; who joins leads
// nothing, and who leads joins nothing.
func TestJoinsAndJoined(t *testing.T) {
	for _, row := range [][]int{nil, {0}, {5}, {1, 2}, {2, 1}, {5, 0, 1, 2}, {4, 5, 1, 0, 2}, {0, 1, 2, 4, 5, 6}, {6, 5, 4, 2, 1, 0}} {
		x := made(t, 7)
		wantDo(t, x, 3, 8, 3, api.OK)
		for i, n := range row {
			wantDo(t, x, n, 8, 3, api.OK)
			for range 3 {
				stands(t, x, &model{7, []call{{key: 8, leader: 3, joined: row[:i+1]}}})
			}
		}
		wantFinish(t, x, 3, api.OK, row...)
		stands(t, x, fresh(7))
	}
	for _, at := range [][3]int{{0, 1, 2}, {0, 999, 998}, {999, 0, 998}, {998, 999, 0}, {500, 0, 999}} {
		x := made(t, 1000)
		wantDo(t, x, at[0], 0, at[0], api.OK)
		wantJoins(t, x, 0, at[0], at[1:]...)
		stands(t, x, &model{1000, []call{{leader: at[0], joined: at[1:]}}})
	}
}

// P15.1: of no task nothing is told, whatever calls there are.
func TestTellingOfNoTask(t *testing.T) {
	for _, p := range places(3, 7, 0) {
		x, m := p.make(t)
		for _, n := range outside(3) {
			wantNothing(t, x, n)
		}
		stands(t, x, m)
	}
}

// P15.2: of a key that has no call who does nothing leads a new one: of one that was never asked for, of one whose call was forgotten,
// is over, or both, and of one whose last call is over while others, that were forgotten, aren't.
func TestDoLeads(t *testing.T) {
	for _, key := range keys() {
		for _, way := range [][]step{
			nil,
			{{do, 1, key}, {forget, 0, key}},
			{{do, 1, key}, {do, 2, key}, {forget, 0, key}},
			{{do, 1, key}, {finish, 1, 0}},
			{{do, 1, key}, {do, 2, key}, {finish, 1, 0}},
			{{do, 1, key}, {forget, 0, key}, {finish, 1, 0}},
			{{do, 1, key}, {forget, 0, key}, {do, 2, key}, {finish, 2, 0}},
			{{do, 1, key}, {forget, 0, key}, {do, 2, key}, {forget, 0, key}},
			{{do, 1, key}, {forget, 0, key}, {do, 2, key}, {forget, 0, key}, {finish, 2, 0}},
			{{do, 1, key}, {forget, 0, key}, {do, 2, key}, {forget, 0, key}, {finish, 1, 0}},
			{{do, 1, key ^ 1}, {do, 2, key ^ 2}},
		} {
			for n := range 5 {
				x, m := given(t, 5, way...)
				if m.led(n) != nil || m.joined(n) != nil {
					continue
				}
				wantLeader(t, x, -1, key)
				wantDo(t, x, n, key, n, api.OK)
				wantLeader(t, x, n, key)
				wantTask(t, x, n, &call{key: key}, nil)
				m.do(n, key)
				stands(t, x, m)
				if t.Failed() {
					t.Fatalf("key %d, behind %v", key, way)
				}
			}
		}
	}
}

// P15.2: of a key that has a call who does nothing joins it, behind all, be it that nobody joins it, one, or several, and that there
// are other ones of that key, which were forgotten and aren't over, or of other keys.
func TestDoJoins(t *testing.T) {
	for _, key := range keys() {
		for _, way := range [][]step{
			{{do, 0, key}},
			{{do, 0, key}, {do, 4, key}},
			{{do, 0, key}, {do, 4, key}, {do, 2, key}},
			{{do, 3, key}, {forget, 0, key}, {do, 0, key}},
			{{do, 3, key}, {do, 2, key}, {forget, 0, key}, {do, 0, key}, {do, 5, key}},
			{{do, 3, key}, {forget, 0, key}, {do, 2, key}, {do, 5, key}, {forget, 0, key}, {do, 0, key}},
			{{do, 3, key}, {do, 2, key}, {finish, 3, 0}, {do, 0, key}, {do, 3, key}},
			{{do, 3, key ^ 1}, {do, 0, key}, {do, 2, key ^ 1}, {do, 4, ^key}},
		} {
			for _, n := range []int{1, 6} {
				x, m := given(t, 7, way...)
				behind := m.led(0).joined
				wantLeader(t, x, 0, key)
				wantDo(t, x, n, key, 0, api.OK)
				wantLeader(t, x, 0, key)
				wantTask(t, x, n, nil, &call{leader: 0})
				wantTask(t, x, 0, &call{key: key, joined: append(slices.Clone(behind), n)}, nil)
				m.do(n, key)
				stands(t, x, m)
				if t.Failed() {
					t.Fatalf("key %d, behind %v", key, way)
				}
			}
		}
	}
}

// P15.2: a task of which there is none is told so ahead of all else, whatever calls there are, and whichever key; nothing is changed.
func TestNoSuchTask(t *testing.T) {
	for _, p := range places(2, 7, 0) {
		x, m := p.make(t)
		for _, n := range outside(2) {
			for _, key := range keys() {
				wantDo(t, x, n, key, -1, api.ErrName)
			}
			wantFinish(t, x, n, api.ErrName)
			wantLeave(t, x, n, false)
		}
		stands(t, x, m)
	}
}

// P15.2: who joins a call joins no other one, nor leads one, nor joins the same one once more, whichever key; nothing is changed.
func TestDoOfWhoJoins(t *testing.T) {
	seen := map[[3]bool]int{}
	for _, p := range places(4, 7, 0) {
		x, m := p.make(t)
		for n := range 4 {
			c := m.joined(n)
			if c == nil {
				continue
			}
			for _, key := range keys() {
				seen[[3]bool{c.forgotten, key == c.key, m.callOf(key) != nil}]++
				wantDo(t, x, n, key, -1, api.ErrWaits)
			}
			stands(t, x, m)
		}
	}
	wantKinds(t, seen)
}

// P15.2: who leads a call leads no other one, nor joins one, nor its own, whichever key; nothing is changed.
func TestDoOfWhoLeads(t *testing.T) {
	seen := map[[3]bool]int{}
	for _, p := range places(4, 7, 0) {
		x, m := p.make(t)
		for n := range 4 {
			c := m.led(n)
			if c == nil {
				continue
			}
			for _, key := range keys() {
				seen[[3]bool{c.forgotten, key == c.key, m.callOf(key) != nil}]++
				wantDo(t, x, n, key, -1, api.ErrHeld)
			}
			stands(t, x, m)
		}
	}
	wantKinds(t, seen)
}

// wantKinds looks whether calls of all kinds were asked for: one's own was forgotten, or not; it is of that key, or not; the key has a
// call, or not (but that one's own is the key's if it wasn't forgotten).
func wantKinds(t *testing.T, seen map[[3]bool]int) {
	t.Helper()
	if len(seen) != 7 || seen[[3]bool{false, true, false}] > 0 {
		t.Errorf("asked for: %v", seen)
	}
}

// P15.3: who leads a call ends it, whoever joins it, and whether it was forgotten: all are told, in order, and join nothing any more;
// all other calls go on.
func TestFinish(t *testing.T) {
	seen := map[string]int{}
	for _, p := range places(4, 7, 0) {
		for n := range 4 {
			x, m := p.make(t)
			c := m.led(n)
			if c == nil {
				continue
			}
			seen[fmt.Sprint(len(c.joined), c.forgotten, m.callOf(c.key) != nil)]++
			key, forgotten, leader, told := c.key, c.forgotten, x.Leader(c.key), c.joined
			wantFinish(t, x, n, api.OK, told...)
			c.over = true
			stands(t, x, m)
			wantNothing(t, x, n)
			for _, one := range told {
				wantNothing(t, x, one)
			}
			if !forgotten {
				leader = -1
			}
			wantLeader(t, x, leader, key)
			wantFinish(t, x, n, api.ErrHeld)
			stands(t, x, m)
		}
	}
	for _, kind := range []string{
		"0 false true", "1 false true", "2 false true", "3 false true", "0 true false", "1 true false", "2 true false", "3 true false",
		"0 true true", "1 true true", "2 true true",
	} {
		if seen[kind] == 0 {
			t.Errorf("no call was over that so many join, was forgotten, and whose key has one: %s", kind)
		}
	}
}

// P15.3: who leads no call ends none: who joins one, and who does nothing; nothing is changed.
func TestFinishOfNotLeading(t *testing.T) {
	joins, idle := 0, 0
	for _, p := range places(4, 7, 0) {
		x, m := p.make(t)
		for n := range 4 {
			if m.led(n) != nil {
				continue
			}
			if m.joined(n) != nil {
				joins++
			} else {
				idle++
			}
			wantFinish(t, x, n, api.ErrHeld)
			stands(t, x, m)
		}
	}
	if joins < 100 || idle < 100 {
		t.Errorf("%d who join, and %d who do nothing, were asked only", joins, idle)
	}
}

// P15.3: of several calls of one key each is over by itself, in whatever order; the last one is the key's till it is over.
func TestFinishOfSeveralOfOneKey(t *testing.T) {
	for _, order := range arrangements(1, 3, 4, 6) {
		x, m := given(t, 10, []step{
			{do, 1, 7}, {do, 9, 7}, {forget, 0, 7}, {do, 3, 7}, {forget, 0, 7}, {do, 4, 7}, {do, 0, 7}, {do, 8, 7}, {forget, 0, 7}, {do, 6, 7}, {do, 5, 7},
		}...)
		told := map[int][]int{1: {9}, 4: {0, 8}, 6: {5}}
		leader := 6
		for _, n := range order {
			wantFinish(t, x, n, api.OK, told[n]...)
			m.finish(n)
			if n == 6 {
				leader = -1
			}
			wantLeader(t, x, leader, 7)
			stands(t, x, m)
		}
		if leader == -1 {
			wantForget(t, x, 7, false)
			wantDo(t, x, 2, 7, 2, api.OK)
		} else {
			wantDo(t, x, 2, 7, 6, api.OK)
			wantFinish(t, x, 6, api.OK, 5, 2)
		}
	}
}

// P15.2, P15.3: who led, who joined, and who did nothing, may ask again once a call is over: the first one leads, the others join; of
// the same key, and of another one.
func TestAsksAgainBehindFinish(t *testing.T) {
	for _, key := range []int64{7, 8, 0} {
		for _, order := range arrangements(0, 1, 2, 3) {
			x, m := given(t, 4, step{do, 2, 7}, step{do, 3, 7}, step{do, 0, 7}, step{finish, 2, 0})
			for i, n := range order {
				wantDo(t, x, n, key, order[0], api.OK)
				m.do(n, key)
				stands(t, x, m)
				wantTask(t, x, order[0], &call{key: key, joined: order[1 : i+1]}, nil)
			}
			if len(order) > 0 {
				wantFinish(t, x, order[0], api.OK, order[1:]...)
			}
			stands(t, x, fresh(4))
		}
	}
}

// P15.3: a key's call is forgotten, whoever joins it: who leads it leads it still, who joined it joins it still, and is told when it is
// over. Nothing else is changed, and it isn't forgotten once more.
func TestForget(t *testing.T) {
	had, hadNot := 0, 0
	for _, p := range places(4, 7, 0) {
		for _, key := range keys() {
			x, m := p.make(t)
			c := m.callOf(key)
			wantForget(t, x, key, c != nil)
			wantLeader(t, x, -1, key)
			if c == nil {
				hadNot++
			} else {
				had++
				c.forgotten = true
				wantTask(t, x, c.leader, c, nil)
			}
			stands(t, x, m)
			wantForget(t, x, key, false)
			stands(t, x, m)
			if c != nil {
				wantFinish(t, x, c.leader, api.OK, c.joined...)
			}
		}
	}
	if had < 100 || hadNot < 100 {
		t.Errorf("%d keys had a call, and %d had none only", had, hadNot)
	}
}

// P15.3: of a key that has no call nothing is forgotten: of one that was never asked for, whose call was forgotten, or is over; nor is
// what was forgotten of a key forgotten once more when the call behind it is.
func TestForgetOfNoCall(t *testing.T) {
	x, m := made(t, 6), fresh(6)
	for _, key := range keys() {
		wantForget(t, x, key, false)
	}
	stands(t, x, m)
	for _, key := range keys() {
		goes(t, x, m, step{do, 3, key}, step{do, 1, key}, step{forget, 0, key})
		wantForget(t, x, key, false)
		goes(t, x, m, step{do, 5, key}, step{do, 4, key})
		wantForget(t, x, key, true)
		m.forget(key)
		wantForget(t, x, key, false)
		stands(t, x, m)
		goes(t, x, m, step{finish, 5, 0})
		wantForget(t, x, key, false)
		stands(t, x, m)
		goes(t, x, m, step{do, 4, key}, step{finish, 4, 0})
		wantForget(t, x, key, false)
		goes(t, x, m, step{finish, 3, 0})
		wantForget(t, x, key, false)
		stands(t, x, fresh(6))
	}
}

// P15.3: who joins a call leaves it, first, last, between others or alone, be it forgotten or not, and there another one of that key or
// not; the others stay in their order, and are told.
func TestLeave(t *testing.T) {
	for _, row := range arrangements(0, 2, 4, 5) {
		for _, way := range [][]step{nil, {{forget, 0, 7}}, {{forget, 0, 7}, {do, 3, 7}, {do, 6, 7}}, {{do, 3, 8}, {do, 6, 8}}} {
			for _, n := range row {
				x, m := given(t, 7, step{do, 1, 7})
				for _, one := range row {
					answers(t, x, m, step{do, one, 7})
				}
				goes(t, x, m, way...)
				others := without(row, n)
				wantLeave(t, x, n, true)
				wantNothing(t, x, n)
				wantTask(t, x, 1, &call{key: 7, joined: others}, nil)
				m.begun[0].joined = others
				stands(t, x, m)
				wantLeave(t, x, n, false)
				wantFinish(t, x, n, api.ErrHeld)
				stands(t, x, m)
				wantFinish(t, x, 1, api.OK, others...)
				m.finish(1)
				stands(t, x, m)
			}
		}
	}
}

// P15.3: who joins nothing doesn't leave: who leads, who never came, who left, who was told; nothing is changed.
func TestLeaveOfNotJoining(t *testing.T) {
	leads, idle := 0, 0
	for _, p := range places(4, 7, 0) {
		x, m := p.make(t)
		for n := range 4 {
			if m.joined(n) != nil {
				continue
			}
			if m.led(n) != nil {
				leads++
			} else {
				idle++
			}
			wantLeave(t, x, n, false)
			stands(t, x, m)
		}
	}
	if leads < 100 || idle < 100 {
		t.Errorf("%d who lead, and %d who do nothing, were asked only", leads, idle)
	}
	x, m := given(t, 5, step{do, 3, 7}, step{do, 0, 7}, step{do, 4, 7}, step{do, 1, 7}, step{leave, 4, 0})
	for _, n := range []int{2, 3, 4} {
		wantLeave(t, x, n, false)
		stands(t, x, m)
	}
	wantFinish(t, x, 3, api.OK, 0, 1)
	for n := range 5 {
		wantLeave(t, x, n, false)
	}
	stands(t, x, fresh(5))
}

// P15.3: all leave, in whatever order, and nobody is told when the call is over; it is led till then.
func TestAllLeave(t *testing.T) {
	for _, order := range arrangements(3, 1, 0, 2) {
		if len(order) < 4 {
			continue
		}
		for _, way := range [][]step{nil, {{forget, 0, 7}}} {
			x, m := given(t, 5, step{do, 4, 7}, step{do, 3, 7}, step{do, 1, 7}, step{do, 0, 7}, step{do, 2, 7})
			goes(t, x, m, way...)
			for _, n := range order {
				wantLeave(t, x, n, true)
				m.leave(n)
				stands(t, x, m)
			}
			wantDo(t, x, 4, 7, -1, api.ErrHeld)
			wantTask(t, x, 4, &call{key: 7}, nil)
			wantFinish(t, x, 4, api.OK)
			stands(t, x, fresh(5))
		}
	}
}

// P15.2, P15.3: who left may ask again: for the same key, behind those who came meanwhile; for another one; and leads one where the
// call was forgotten.
func TestJoinsAgainBehindLeave(t *testing.T) {
	x, m := given(t, 7, step{do, 5, 7}, step{do, 0, 7}, step{do, 1, 7})
	goes(t, x, m, []step{
		{leave, 0, 0}, {do, 2, 7}, {do, 0, 7}, {do, 0, 7}, {leave, 1, 0}, {do, 3, 7}, {do, 1, 7}, {leave, 2, 0}, {leave, 2, 0}, {do, 2, 8}, {do, 4, 8},
		{leave, 4, 0}, {do, 4, 7}, {leave, 3, 0}, {do, 3, 8},
	}...)
	stands(t, x, &model{7, []call{{key: 7, leader: 5, joined: []int{0, 1, 4}}, {key: 8, leader: 2, joined: []int{3}}}})
	goes(t, x, m, step{forget, 0, 7}, step{leave, 1, 0}, step{do, 1, 7}, step{leave, 0, 0}, step{do, 0, 7}, step{leave, 3, 0}, step{do, 3, 7})
	stands(t, x, &model{7, []call{
		{key: 7, leader: 5, joined: []int{4}, forgotten: true}, {key: 8, leader: 2}, {key: 7, leader: 1, joined: []int{0, 3}},
	}})
	wantFinish(t, x, 5, api.OK, 4)
	wantFinish(t, x, 1, api.OK, 0, 3)
	wantFinish(t, x, 2, api.OK)
	stands(t, x, fresh(7))
}

// P15.2, P15.3: the same few lead, join, leave and are told, one behind the other, many times.
func TestAsksAgainAndAgain(t *testing.T) {
	x, m := made(t, 4), fresh(4)
	for i := range 24 {
		a, b, c, d := i%4, (i+1)%4, (i+2)%4, (i+3)%4
		key := keys()[i%len(keys())]
		goes(t, x, m, []step{
			{do, a, key}, {do, b, key}, {do, c, key}, {leave, b, 0}, {do, b, key}, {do, d, key ^ 1}, {finish, a, 0}, {do, b, key ^ 1}, {do, c, key},
			{forget, 0, key}, {do, a, key}, {finish, c, 0}, {finish, d, 0}, {do, b, key}, {finish, a, 0},
		}...)
		stands(t, x, fresh(4))
	}
}

// spoil changes a list that was told, and what stands behind it.
func spoil(list []int) {
	for i := range list {
		list[i] = 77
	}
	_ = append(list, 77, 78)
	_ = append(list[:0], 79)
	all := list[:cap(list)]
	for i := range all {
		all[i] = 80
	}
}

// P15.1, P15.3: a list that was told is the asker's own: whoever changes it changes nothing that is kept.
func TestListsAreNew(t *testing.T) {
	for _, p := range places(4, 7, 0) {
		x, m := p.make(t)
		for range 2 {
			for n := range 4 {
				spoil(x.Joined(n))
			}
			stands(t, x, m)
		}
		for n := range 4 {
			want, _ := m.finish(n)
			told, _ := x.Finish(n)
			if !slices.Equal(told, want) {
				t.Errorf("Finish(%d) = %v, want %v", n, told, want)
			}
			spoil(told)
			stands(t, x, m)
		}
		goes(t, x, m, step{do, 2, 7}, step{do, 0, 7}, step{do, 3, 7}, step{do, 1, 7}, step{finish, 2, 0})
	}
}

// P15.1, P15.3: a list that was told stays as it was, whatever is done later, and has nothing in common with another one.
func TestListsStay(t *testing.T) {
	x, _ := given(t, 8, step{do, 2, 7}, step{do, 3, 7}, step{do, 1, 7}, step{do, 5, 7}, step{do, 0, 7})
	joined, same := x.Joined(2), x.Joined(2)
	spoil(same)
	wantLeave(t, x, 5, true)
	fewer := x.Joined(2)
	wantLeave(t, x, 3, true)
	wantJoins(t, x, 7, 2, 4, 3)
	last := x.Joined(2)
	told, _ := x.Finish(2)
	spoil(x.Joined(2))
	wantDo(t, x, 2, 7, 2, api.OK)
	wantJoins(t, x, 7, 2, 7, 6, 5, 4, 3, 1, 0)
	again, _ := x.Finish(2)
	for i, list := range []struct{ is, was []int }{
		{joined, []int{3, 1, 5, 0}}, {fewer, []int{3, 1, 0}}, {last, []int{1, 0, 4, 3}}, {told, []int{1, 0, 4, 3}}, {again, []int{7, 6, 5, 4, 3, 1, 0}},
	} {
		if !slices.Equal(list.is, list.was) {
			t.Errorf("list %d that was told as %v is %v now", i, list.was, list.is)
		}
		spoil(list.is)
	}
	stands(t, x, fresh(8))
}

// P15.1: two flights have nothing in common: who leads a call of a key in one may join one in the other one.
func TestFlightsAreApart(t *testing.T) {
	a, m := given(t, 4, step{do, 1, 7}, step{do, 2, 7}, step{do, 0, 8})
	b, n := given(t, 3)
	for _, s := range []step{
		{do, 2, 7}, {do, 1, 7}, {do, 0, 9}, {forget, 0, 7}, {leave, 1, 0}, {do, 1, 8}, {finish, 0, 0}, {do, 0, 8}, {finish, 2, 0}, {finish, 1, 0},
	} {
		goes(t, b, n, s)
		stands(t, a, m)
	}
	goes(t, a, m, step{leave, 2, 0}, step{forget, 0, 8}, step{finish, 1, 0})
	stands(t, b, fresh(3))
}

// P15.1 to P15.3 of a flight with one task alone: it leads, and nobody joins.
func TestOneTask(t *testing.T) {
	x, m := made(t, 1), fresh(1)
	for _, key := range keys() {
		goes(t, x, m, []step{
			{finish, 0, 0}, {leave, 0, 0}, {forget, 0, key}, {do, 1, key}, {do, 0, key}, {do, 0, key}, {do, 1, key}, {leave, 0, 0}, {finish, 1, 0},
			{finish, 0, 0}, {finish, 0, 0}, {do, 0, key}, {forget, 0, key}, {do, 0, key}, {forget, 0, key}, {do, 0, key ^ 1}, {finish, 0, 0},
			{do, 0, key ^ 1}, {finish, 0, 0},
		}...)
	}
	stands(t, x, fresh(1))
}

// P15.1 to P15.3 at the greatest size: all but one join a call, every third one leaves, some come back, and the rest is told.
func TestAllJoinOne(t *testing.T) {
	x, m := made(t, 1000), fresh(1000)
	for round := range 2 {
		leader := 999 * (1 - round)
		answers(t, x, m, step{do, leader, least})
		for i := range 1000 {
			answers(t, x, m, step{do, i * 7 % 1000, least})
		}
		stands(t, x, m)
		for n := 0; n < 1000; n += 3 {
			answers(t, x, m, step{leave, n, 0})
		}
		stands(t, x, m)
		for n := 0; n < 1000; n += 6 {
			answers(t, x, m, step{do, n, least})
		}
		stands(t, x, m)
		if told, e := x.Finish(leader); e != api.OK || len(told) < 800 || !slices.Equal(told, m.led(leader).joined) {
			t.Errorf("Finish(%d) = %v, %d", leader, told, e)
		}
		m.finish(leader)
		stands(t, x, fresh(1000))
	}
}

// P15.1 to P15.3 at the greatest size: each leads a call of a key of its own.
func TestAllLead(t *testing.T) {
	x, m := made(t, 1000), fresh(1000)
	for n := range 1000 {
		wantDo(t, x, n, int64(n)<<40-1, n, api.OK)
		m.begun = append(m.begun, call{key: int64(n)<<40 - 1, leader: n})
	}
	stands(t, x, m)
	for n := range 1000 {
		wantDo(t, x, n, int64(n+1)<<40-1, -1, api.ErrHeld)
		wantFinish(t, x, n, api.OK)
	}
	stands(t, x, fresh(1000))
}

// P15.2, P15.3 at the greatest size: each leads a call of one key, of which all but the last one were forgotten.
func TestAllLeadOneKey(t *testing.T) {
	x, m := made(t, 1000), fresh(1000)
	for n := range 1000 {
		wantForget(t, x, -5, n > 0)
		wantDo(t, x, n, -5, n, api.OK)
		m.begun = append(m.begun, call{key: -5, leader: n, forgotten: n < 999})
	}
	stands(t, x, m)
	for i := range 1000 {
		n := i * 7 % 1000
		wantFinish(t, x, n, api.OK)
		m.begun[n].over = true
		wantLeader(t, x, m.leader(-5), -5)
	}
	stands(t, x, fresh(1000))
}

// P15.1: nothing is left of a key whose calls are over, however many keys there were.
func TestManyKeys(t *testing.T) {
	x := made(t, 2)
	for i := range int64(100000) {
		key := i * 0x9e3779b97f4a7c1 // far from each other
		wantDo(t, x, 0, key, 0, api.OK)
		wantDo(t, x, 1, key, 0, api.OK)
		if i%2 == 0 {
			wantForget(t, x, key, true)
		}
		wantFinish(t, x, 0, api.OK, 1)
		wantLeader(t, x, -1, key)
	}
	for i := range int64(100000) {
		wantLeader(t, x, -1, i*0x9e3779b97f4a7c1)
	}
}

// P15.1 to P15.3: whatever is called, be it right or wrong, of small flights, however they stand, and what each one says of every call
// that comes then.
func TestEveryTwoStepsOfSmallFlights(t *testing.T) {
	for _, size := range []struct {
		tasks int
		keys  []int64
	}{
		{1, []int64{7, 0, least}}, {2, []int64{0, -1, top}}, {3, []int64{7, 8}}, {4, []int64{0}},
	} {
		for _, from := range places(size.tasks, size.keys...) {
			everyTwoSteps(t, from, stepsOf(size.tasks, size.keys...))
		}
	}
}

func everyTwoSteps(t *testing.T, from place, all []step) {
	t.Helper()
	for _, first := range all {
		x, m := from.make(t)
		goes(t, x, m, first)
		for _, second := range all {
			x, m := made(t, from.m.tasks), from.m.clone()
			for _, s := range from.way {
				again(x, s)
			}
			again(x, first)
			after(m, first)
			goes(t, x, m, second)
			if t.Failed() {
				t.Fatalf("behind %v: step %v, then %v", from.way, first, second)
			}
		}
	}
}

// again makes a step of a flight, whose answers were held against its model ahead of that.
func again(x *flight.Flight, s step) {
	switch s.what {
	case do:
		x.Do(s.task, s.key)
	case finish:
		x.Finish(s.task)
	case forget:
		x.Forget(s.key)
	case leave:
		x.Leave(s.task)
	}
}

// P15.2, P15.3: what has an error changes nothing, and beside it every other result is -1, or none.
func TestErrorsChangeNothing(t *testing.T) {
	wrong := map[api.Errno]int{}
	for _, p := range places(4, 7, 0) {
		x, m := p.make(t)
		for _, s := range stepsOf(4, 7, 0, least, top) {
			if e := after(m.clone(), s); e != api.OK {
				answers(t, x, m.clone(), s)
				wrong[e]++
			}
		}
		stands(t, x, m)
	}
	for _, e := range []api.Errno{api.ErrName, api.ErrWaits, api.ErrHeld} {
		if wrong[e] < 1000 {
			t.Errorf("%d calls had the error %d only", wrong[e], e)
		}
	}
}

// someStep is a step of a flight, often one that is right.
func someStep(r *rand.Rand, tasks int, keys []int64) step {
	task, key := r.Intn(tasks), keys[r.Intn(len(keys))]
	switch r.Intn(12) {
	case 0, 1:
		return step{finish, task, 0}
	case 2:
		return step{forget, 0, key}
	case 3:
		return step{leave, task, 0}
	case 4:
		all := outside(tasks)
		return step{r.Intn(4), all[r.Intn(len(all))], key}
	}
	return step{do, task, key}
}

// P15.1 to P15.3: long ways, on which nothing is left of what was.
func TestLongWays(t *testing.T) {
	for seed := range int64(100) {
		r := rand.New(rand.NewSource(seed))
		x, m := given(t, 1+r.Intn(10))
		some := keys()[:1+r.Intn(len(keys()))]
		for range 400 {
			s := someStep(r, m.tasks, some)
			goes(t, x, m, s)
			if t.Failed() {
				t.Fatalf("seed %d: step %v", seed, s)
			}
		}
	}
}

// ledger is what is known of a flight by what its calls answered, and not by what it tells of itself.
type ledger struct {
	key           map[int]int64   // of each who leads a call
	since         map[int64][]int // of each key, who leads a call that was begun behind its last Forget, and isn't over
	came          map[int][]int   // by who leads, who joined, and neither left nor was told, in order
	told, several int             // how many were told, and how often two calls of one key or more were led
}

func blank() *ledger {
	return &ledger{key: map[int]int64{}, since: map[int64][]int{}, came: map[int][]int{}}
}

// step makes a step of a flight, takes in what it answered, and tells what is wrong with that.
func (l *ledger) step(x *flight.Flight, s step) string {
	switch s.what {
	case do:
		if leader, e := x.Do(s.task, s.key); e == api.OK {
			return l.do(s.task, s.key, leader)
		}
	case finish:
		if told, e := x.Finish(s.task); e == api.OK {
			return l.finish(s.task, told)
		}
	case forget:
		if is := x.Forget(s.key); is != (len(l.since[s.key]) > 0) {
			return "what is forgotten isn't what was begun"
		}
		l.since[s.key] = nil
	case leave:
		if x.Leave(s.task) {
			return l.leave(s.task)
		}
	}
	return ""
}

// do takes in what a Do answered.
func (l *ledger) do(t int, key int64, leader int) string {
	if leader != t {
		if !slices.Equal(l.since[key], []int{leader}) {
			return "one joins a call that isn't the key's"
		}
		l.came[leader] = append(l.came[leader], t)
		return ""
	}
	if _, is := l.key[t]; is {
		return "one leads two calls"
	}
	for other, k := range l.key {
		if other != t && k == key {
			l.several++
			break
		}
	}
	l.key[t], l.since[key] = key, append(l.since[key], t)
	return ""
}

// finish takes in what a Finish answered.
func (l *ledger) finish(t int, told []int) string {
	key, is := l.key[t]
	if !is {
		return "a call is over that nobody led"
	}
	if !slices.Equal(told, l.came[t]) {
		return "others are told than those who joined"
	}
	l.told += len(told)
	delete(l.key, t)
	delete(l.came, t)
	l.since[key] = without(l.since[key], t)
	return ""
}

// leave takes in that one left.
func (l *ledger) leave(t int) string {
	for leader, row := range l.came {
		if slices.Contains(row, t) {
			l.came[leader] = without(row, t)
			return ""
		}
	}
	return "one left that didn't join"
}

// keeps makes long ways by a ledger, and asks at each step whether what is said holds.
func keeps(t *testing.T, holds func(*ledger, *flight.Flight) bool) {
	t.Helper()
	told, several := 0, 0
	for seed := range int64(200) {
		r := rand.New(rand.NewSource(seed))
		x, l := made(t, 8), blank()
		for range 200 {
			s := someStep(r, 8, []int64{7, 0, top}[:1+seed%3])
			if wrong := l.step(x, s); wrong != "" || !holds(l, x) {
				t.Fatalf("seed %d: step %v: %s; by what was told %v", seed, s, wrong, *l)
			}
		}
		told, several = told+l.told, several+l.several
	}
	if told < 1000 || several < 1000 {
		t.Errorf("%d were told, and two calls of one key were led %d times only", told, several)
	}
}

// P15.4: between two Forgets of a key one call of it is led at a time, by whom it tells.
func TestOneCallIsLedAtATime(t *testing.T) {
	keeps(t, func(l *ledger, x *flight.Flight) bool {
		for _, key := range []int64{7, 0, top} {
			leader := x.Leader(key)
			if len(l.since[key]) > 1 || leader == -1 && len(l.since[key]) > 0 || leader != -1 && !slices.Equal(l.since[key], []int{leader}) {
				return false
			}
		}
		return true
	})
}

// P15.4: whoever joins is told when that call is over, unless he left: nobody is lost, nobody is told whose call goes on, and nobody is
// told twice.
func TestWhoeverJoinsIsTold(t *testing.T) {
	keeps(t, func(l *ledger, x *flight.Flight) bool {
		for leader, row := range l.came {
			if !slices.Equal(x.Joined(leader), row) {
				return false
			}
			for _, n := range row {
				if x.Joins(n) != leader {
					return false
				}
			}
		}
		return true
	})
}

// P15.4: what is done of one key changes nothing of another one's: neither who leads a call of it, nor who joins one.
func TestWhatIsDoneOfOneKey(t *testing.T) {
	all := []int64{7, 8, 7 + 1<<32, 0}
	for seed := range int64(150) {
		r := rand.New(rand.NewSource(seed))
		x := made(t, 9)
		for range 150 {
			s := someStep(r, 9, all)
			of, is := keyOf(x, s)
			was := others(x, all, of, is)
			again(x, s)
			if now := others(x, all, of, is); now != was {
				t.Fatalf("seed %d: step %v is of the key %d (%t), and of the others it was %s, and is %s", seed, s, of, is, was, now)
			}
		}
	}
}

// keyOf is the key of which a step is, if it is of one.
func keyOf(x *flight.Flight, s step) (int64, bool) {
	switch s.what {
	case finish:
		return x.Leads(s.task)
	case leave:
		return x.Leads(x.Joins(s.task))
	}
	return s.key, true
}

// others is all that a flight tells of these keys but one.
func others(x *flight.Flight, keys []int64, but int64, is bool) string {
	look := ""
	for _, key := range keys {
		if is && key == but {
			continue
		}
		look += fmt.Sprintln("of", key, x.Leader(key))
		for n := range 9 {
			if of, leads := x.Leads(n); leads && of == key {
				look += fmt.Sprintln(n, x.Joined(n))
			}
			if over := x.Joins(n); over != -1 {
				if of, _ := x.Leads(over); of == key {
					look += fmt.Sprintln(n, "joins", over)
				}
			}
		}
	}
	return look
}

// P15.4: two keys, each with tasks of its own, go on in one flight as each of them does in a flight of its own.
func TestKeysGoOnAsIfAlone(t *testing.T) {
	for _, two := range [][2]int64{{7, 8}, {0, -1}, {least, top}, {5, 5 + 1<<32}, {0, least}} {
		for seed := range int64(40) {
			r := rand.New(rand.NewSource(seed))
			both := made(t, 10)
			alone := [2]*flight.Flight{made(t, 10), made(t, 10)}
			for range 200 {
				which := r.Intn(2)
				s := someStep(r, 5, two[which:which+1])
				s.key = two[which]
				if 0 <= s.task && s.task < 5 {
					s.task = s.task*2 + which
				} else {
					s.task = -1
				}
				if a, b := said(both, s), said(alone[which], s); a != b {
					t.Fatalf("keys %v, seed %d: step %v answers %s, and %s alone", two, seed, s, a, b)
				}
			}
		}
	}
}

// said is all that a step answers, and what is told of its task and key then.
func said(x *flight.Flight, s step) string {
	look := ""
	switch s.what {
	case do:
		look = fmt.Sprint(x.Do(s.task, s.key))
	case finish:
		look = fmt.Sprint(x.Finish(s.task))
	case forget:
		look = fmt.Sprint(x.Forget(s.key))
	case leave:
		look = fmt.Sprint(x.Leave(s.task))
	}
	key, is := x.Leads(s.task)
	return look + fmt.Sprint("; ", key, is, x.Joins(s.task), x.Joined(s.task), x.Leader(s.key))
}
