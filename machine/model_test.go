package machine_test

import (
	"math"
	"math/big"
	"slices"
	"sort"

	"countermand/api"
	"countermand/code"
	"countermand/machine"
	"countermand/script"
	"countermand/task"
)

// world is a machine as plainly as the document says it: no layer is asked for anything, all is lists that are gone through.
type world struct {
	programs [][]code.Instr
	now      int64
	set      int64 // how many alarms were ever set
	alarms   []alarm
	ctxs     []node
	afters   []after
	tasks    []task.Task
	mutexes  [api.MostObjs]lock
	rws      [api.MostObjs]shared
	conds    [api.MostObjs][]waiter
	onces    [api.MostObjs]thing
	groups   [api.MostObjs]group
	semas    [api.MostObjs]room
	teams    [api.MostObjs]crew
	flights  [api.MostObjs][]call
	told     []machine.Event
}

type alarm struct {
	key        int
	at, number int64
}

type node struct {
	over       int
	cut        bool
	hasLine    bool // whether it has a deadline of its own
	line       int64
	hasValue   bool
	key, value int64
	err        api.Errno
	cause      int64
}

type after struct {
	on, thing int
	waits     bool
}

type lock struct {
	holder int
	row    []int
}

type shared struct {
	writer               int
	readers, read, write []int
}

type waiter struct{ task, lock int }

type thing struct {
	state, by int
	row       []int
}

type group struct {
	count int64
	row   []int
}

type want struct {
	task int
	n    int64
}

type room struct {
	most, held   int64
	wants, never []want
}

type crew struct {
	limit, active    int
	first            int64
	callers, waiters []int
}

type call struct {
	leader int
	key    int64
	open   bool // whether it is the call of its key
	joined []int
}

func newWorld(s script.Script) *world {
	w := &world{programs: s.Programs, ctxs: []node{{over: -1}}}
	for i := range api.MostObjs {
		w.mutexes[i].holder = -1
		w.rws[i].writer = -1
		w.onces[i].by = -1
		w.semas[i].most = s.Rooms[i]
		w.teams[i].limit = -1
	}
	return w
}

// sum is a sum that doesn't go round.
func sum(a, b int64) int64 {
	z := new(big.Int).Add(big.NewInt(a), big.NewInt(b))
	switch {
	case z.IsInt64():
		return z.Int64()
	case z.Sign() < 0:
		return math.MinInt64
	}
	return math.MaxInt64
}

// without is a row that one left, and whether he stood there.
func without(l []int, t int) ([]int, bool) {
	i := slices.Index(l, t)
	if i < 0 {
		return l, false
	}
	return append(slices.Clone(l[:i]), l[i+1:]...), true
}

func (w *world) say(kind, t, a int, n int64) {
	w.told = append(w.told, machine.Event{Kind: kind, Task: t, A: a, N: n})
}

func (w *world) sayFailed(t int, e api.Errno) {
	if e != api.OK {
		w.say(machine.Failed, t, 0, int64(e))
	}
}

// step lets an item happen, and tells the events.
func (w *world) step(x script.Item) []machine.Event {
	w.told = nil
	wrong := x.Do < 0 || x.Do > 2 || x.A < 0 || x.Do != 2 && x.N != 0 || x.Do == 2 && x.A != 0 || x.Do == 0 && x.A > 7 || x.Do == 1 && x.A > 15
	switch {
	case wrong:
		w.sayFailed(-1, api.ErrForm)
	case x.Do == 0:
		w.beginAlone(x.A)
	case x.Do == 1:
		w.sayFailed(x.A, w.pick(x.A))
	default:
		w.clock(x.N)
	}
	return w.told
}

func (w *world) clock(d int64) {
	if d > 0 {
		w.now = sum(w.now, d)
	}
	w.say(machine.Clock, -1, 0, w.now)
	var off, left []alarm
	for _, x := range w.alarms {
		if x.at <= w.now {
			off = append(off, x)
		} else {
			left = append(left, x)
		}
	}
	w.alarms = left
	sort.Slice(off, func(i, j int) bool {
		return off[i].at < off[j].at || off[i].at == off[j].at && off[i].number < off[j].number
	})
	for _, x := range off {
		w.say(machine.Rang, -1, x.key, x.at)
		if x.key < 16 {
			w.wake(x.key, 0)
		} else {
			w.come(w.due(x.at))
		}
	}
}

func (w *world) ring(key int, at int64) {
	w.set++
	w.alarms = append(w.alarms, alarm{key, at, w.set})
}

func (w *world) begin(program, team int) (int, api.Errno) {
	switch {
	case program >= len(w.programs):
		return -1, api.ErrName
	case len(w.tasks) == 16:
		return -1, api.ErrFull
	}
	w.tasks = append(w.tasks, task.Task{State: task.Ready, Prog: program, Team: team})
	n := len(w.tasks) - 1
	w.say(machine.Began, n, program, int64(team))
	return n, api.OK
}

func (w *world) beginAlone(program int) {
	_, e := w.begin(program, -1)
	w.sayFailed(-1, e)
}

func (w *world) park(t, kind, obj, ctx, reg, lock int, n int64) {
	w.tasks[t].State = task.Parked
	w.tasks[t].Wait = task.Park{Kind: kind, Obj: obj, Ctx: ctx, Reg: reg, Lock: lock, N: n}
	w.say(machine.Parked, t, kind, int64(obj))
}

func (w *world) wake(t int, x int64) {
	p := w.tasks[t].Wait
	if p.Reg >= 0 {
		w.tasks[t].Regs[p.Reg] = x
	}
	w.tasks[t].State, w.tasks[t].Wait = task.Ready, task.Park{}
	w.say(machine.Woken, t, p.Kind, x)
}

func (w *world) wakeRow(l []int, x int64) {
	for _, t := range l {
		w.wake(t, x)
	}
}

func (w *world) end(t int, err int64) {
	w.tasks[t].State, w.tasks[t].Wait, w.tasks[t].Err = task.Ended, task.Park{}, err
	w.say(machine.Ended, t, 0, err)
	if w.tasks[t].Team >= 0 {
		w.over(w.tasks[t].Team, err)
	}
}

// over is a place in a team that is over.
func (w *world) over(o int, err int64) {
	c := &w.teams[o]
	c.active--
	if c.first == 0 {
		c.first = err
	}
	if len(c.callers) == 0 {
		if c.active == 0 {
			l := c.waiters
			c.waiters = nil
			w.wakeRow(l, c.first)
		}
		return
	}
	who := c.callers[0]
	c.callers = c.callers[1:]
	c.active++
	n, e := w.begin(int(w.tasks[who].Wait.N), o)
	if e == api.OK {
		w.wake(who, int64(n))
		return
	}
	w.sayFailed(who, e)
	w.wake(who, -1)
	w.over(o, 0)
}

func (w *world) pick(t int) api.Errno {
	switch {
	case t >= len(w.tasks):
		return api.ErrName
	case w.tasks[t].State != task.Ready:
		return api.ErrBusy
	}
	x := &w.tasks[t]
	if x.At >= len(w.programs[x.Prog]) {
		w.end(t, 0)
		return api.OK
	}
	i := w.programs[x.Prog][x.At]
	x.At++
	var a, b int64
	if i.A < 6 {
		a = x.Regs[i.A]
	}
	if i.B < 6 {
		b = x.Regs[i.B]
	}
	return w.do(t, i, a, b)
}

// reach is what a context reaches, in order.
func (w *world) reach(c int) []int {
	l := []int{c}
	for k := c + 1; k < len(w.ctxs); k++ {
		if w.ctxs[k].over == c && !w.ctxs[k].cut {
			l = append(l, w.reach(k)...)
		}
	}
	return l
}

func (w *world) endCtx(c int, e api.Errno, cause int64) []int {
	if cause == 0 {
		cause = int64(e)
	}
	var l []int
	for _, k := range w.reach(c) {
		if w.ctxs[k].err == api.OK {
			w.ctxs[k].err, w.ctxs[k].cause = e, cause
			l = append(l, k)
		}
	}
	return l
}

func (w *world) due(now int64) []int {
	var late []int
	for c, x := range w.ctxs {
		if x.hasLine && x.line <= now {
			late = append(late, c)
		}
	}
	sort.SliceStable(late, func(i, j int) bool { return w.ctxs[late[i]].line < w.ctxs[late[j]].line })
	var l []int
	for _, c := range late {
		if w.ctxs[c].err == api.OK {
			l = append(l, w.endCtx(c, api.ErrLate, 0)...)
		}
	}
	return l
}

// newCtx puts a context below another one, and tells its number.
func (w *world) newCtx(over int64, x node) (int, api.Errno) {
	switch {
	case over < 0 || over >= int64(len(w.ctxs)):
		return -1, api.ErrName
	case len(w.ctxs) == 24:
		return -1, api.ErrFull
	}
	x.over = int(over)
	up := w.ctxs[over]
	switch {
	case up.err != api.OK && !x.cut:
		x.err, x.cause = up.err, up.cause
	case x.hasLine && x.line <= w.now:
		x.err, x.cause = api.ErrLate, int64(api.ErrLate)
	}
	w.ctxs = append(w.ctxs, x)
	return len(w.ctxs) - 1, api.OK
}

func (w *world) value(c int, key int64) int64 {
	for ; c >= 0; c = w.ctxs[c].over {
		if w.ctxs[c].hasValue && w.ctxs[c].key == key {
			return w.ctxs[c].value
		}
	}
	return 0
}

// come is what comes of contexts that are done now.
func (w *world) come(done []int) {
	for _, c := range done {
		w.say(machine.Done, -1, c, int64(w.ctxs[c].err))
	}
	for _, c := range done {
		for t := 0; t < len(w.tasks); {
			x := w.tasks[t]
			if x.State == task.Parked && x.Wait.Ctx == c {
				w.leave(t, int64(w.ctxs[c].err))
				t = 0
				continue
			}
			t++
		}
	}
	for _, c := range done {
		w.fire(c)
	}
}

func (w *world) fire(c int) {
	var l []int
	for i := range w.afters {
		if x := &w.afters[i]; x.waits && x.on == c {
			x.waits = false
			l = append(l, x.thing)
		}
	}
	for _, p := range l {
		w.beginAlone(p)
	}
}

func (w *world) leave(t int, err int64) {
	o := w.tasks[t].Wait.Obj
	switch w.tasks[t].Wait.Kind {
	case machine.Mutex:
		w.mutexes[o].row, _ = without(w.mutexes[o].row, t)
		w.wake(t, err)
	case machine.Sema:
		s := &w.semas[o]
		is := func(x want) bool { return x.task == t }
		s.wants, s.never = slices.DeleteFunc(s.wants, is), slices.DeleteFunc(s.never, is)
		w.wake(t, err)
		w.giveRoom(o)
	case machine.Cond:
		lock := w.tasks[t].Wait.Lock
		w.conds[o] = slices.DeleteFunc(w.conds[o], func(x waiter) bool { return x.task == t })
		w.again(t, lock, err)
	case machine.Await:
		w.wake(t, err)
	}
}

// giveRoom gives what can be given of a semaphore.
func (w *world) giveRoom(o int) {
	s := &w.semas[o]
	var l []int
	for len(s.wants) > 0 && s.wants[0].n <= s.most-s.held {
		s.held += s.wants[0].n
		l = append(l, s.wants[0].task)
		s.wants = s.wants[1:]
	}
	w.wakeRow(l, 0)
}

// again lets a task have a lock again.
func (w *world) again(t, o int, n int64) {
	if w.mutexes[o].holder < 0 {
		w.mutexes[o].holder = t
		w.wake(t, n)
		return
	}
	w.mutexes[o].row = append(w.mutexes[o].row, t)
	w.tasks[t].Wait = task.Park{Kind: machine.Mutex, Obj: o, Ctx: -1, Reg: w.tasks[t].Wait.Reg, Lock: -1, N: n}
}

func (w *world) unlock(t, o int) api.Errno {
	m := &w.mutexes[o]
	switch {
	case m.holder != t:
		return api.ErrHeld
	case len(m.row) == 0:
		m.holder = -1
	default:
		m.holder, m.row = m.row[0], m.row[1:]
		w.wake(m.holder, w.tasks[m.holder].Wait.N)
	}
	return api.OK
}

// giveRW gives what can be given of an rw lock.
func (w *world) giveRW(o int) []int {
	l := &w.rws[o]
	var given []int
	switch {
	case l.writer < 0 && len(l.readers) == 0 && len(l.write) > 0:
		l.writer, l.write = l.write[0], l.write[1:]
		given = []int{l.writer}
	case l.writer < 0 && len(l.write) == 0:
		given, l.read = l.read, nil
		l.readers = append(l.readers, given...)
	}
	return given
}

// under is the context a: whether it is open, and what is told, if it isn't.
func (w *world) under(t int, i code.Instr, a int64) (bool, api.Errno) {
	switch {
	case a < 0 || a >= int64(len(w.ctxs)):
		return false, api.ErrName
	case w.ctxs[a].err != api.OK:
		w.tasks[t].Regs[i.A] = int64(w.ctxs[a].err)
		return false, api.OK
	}
	return true, api.OK
}

func one(is bool) int64 {
	if is {
		return 1
	}
	return 0
}

// do does an instruction.
func (w *world) do(t int, i code.Instr, a, b int64) api.Errno {
	tell := func(x int64) { w.tasks[t].Regs[i.A] = x }
	switch i.Op {
	case code.Halt:
		w.end(t, 0)
	case code.Set:
		tell(i.N)
	case code.Move:
		tell(b)
	case code.Add:
		tell(sum(a, b))
	case code.Zero:
		if a == 0 {
			w.tasks[t].At = int(i.N)
		}
	case code.Less:
		if a < b {
			w.tasks[t].At = int(i.N)
		}
	case code.Yield:
	case code.Spawn:
		n, e := w.begin(i.B, -1)
		if e != api.OK {
			return e
		}
		tell(int64(n))
	case code.Now:
		tell(w.now)
	case code.Sleep:
		if a > 0 {
			w.ring(t, sum(w.now, a))
			w.park(t, machine.Sleep, 0, -1, -1, -1, 0)
		}
	case code.Fail:
		w.end(t, a)
	case code.WithCancel, code.WithTimeout, code.WithValue, code.WithoutCancel, code.Cancel, code.Err, code.Cause, code.Value, code.Await, code.After, code.StopAfter:
		return w.doCtx(t, i, a, b)
	case code.OnceBegin, code.OnceEnd, code.GroupAdd, code.GroupWait, code.Acquire, code.TryAcquire, code.Release:
		return w.doRoom(t, i, a, b)
	case code.Go, code.TryGo, code.SetLimit, code.TeamWait, code.Do, code.Finish, code.Forget:
		return w.doTeam(t, i, a, b)
	default:
		return w.doLock(t, i, a)
	}
	return api.OK
}

func (w *world) doCtx(t int, i code.Instr, a, b int64) api.Errno {
	tell := func(x int64) { w.tasks[t].Regs[i.A] = x }
	made := func(n int, e api.Errno) api.Errno {
		if e == api.OK {
			tell(int64(n))
		}
		return e
	}
	is := func(c int64) bool { return c >= 0 && c < int64(len(w.ctxs)) }
	switch i.Op {
	case code.WithCancel:
		return made(w.newCtx(b, node{}))
	case code.WithTimeout:
		at := sum(w.now, i.N)
		n, e := w.newCtx(b, node{hasLine: true, line: at})
		if e == api.OK && w.ctxs[n].err == api.OK {
			w.ring(16+n, at)
		}
		return made(n, e)
	case code.WithValue:
		return made(w.newCtx(b, node{hasValue: true, key: i.N, value: a}))
	case code.WithoutCancel:
		return made(w.newCtx(b, node{cut: true}))
	case code.Cancel:
		switch {
		case !is(a):
			return api.ErrName
		case a > 0:
			w.come(w.endCtx(int(a), api.ErrCanceled, i.N))
		}
	case code.StopAfter:
		for n := range w.afters {
			if int64(n) == a && w.afters[n].waits {
				w.afters[n].waits = false
				tell(1)
				return api.OK
			}
		}
		tell(0)
	case code.Await:
		open, e := w.under(t, i, a)
		if open {
			w.park(t, machine.Await, 0, int(a), i.A, -1, 0)
		}
		return e
	default:
		if !is(b) {
			return api.ErrName
		}
		return w.ofCtx(t, i, int(b))
	}
	return api.OK
}

// ofCtx does an instruction that asks something of the context b.
func (w *world) ofCtx(t int, i code.Instr, b int) api.Errno {
	tell := func(x int64) { w.tasks[t].Regs[i.A] = x }
	switch i.Op {
	case code.Err:
		tell(int64(w.ctxs[b].err))
	case code.Cause:
		tell(w.ctxs[b].cause)
	case code.Value:
		tell(w.value(b, i.N))
	case code.After:
		switch {
		case i.N >= int64(len(w.programs)):
			return api.ErrName
		case len(w.afters) == 16:
			return api.ErrFull
		}
		w.afters = append(w.afters, after{on: b, thing: int(i.N), waits: true})
		tell(int64(len(w.afters) - 1))
		if w.ctxs[b].err != api.OK {
			w.fire(b)
		}
	}
	return api.OK
}

func (w *world) doLock(t int, i code.Instr, a int64) api.Errno {
	o := int(i.N)
	tell := func(x int64) { w.tasks[t].Regs[i.A] = x }
	m, l := &w.mutexes[o], &w.rws[o]
	take := func() bool {
		if m.holder >= 0 {
			return false
		}
		m.holder = t
		return true
	}
	switch i.Op {
	case code.Lock:
		if !take() {
			m.row = append(m.row, t)
			w.park(t, machine.Mutex, o, -1, -1, -1, 0)
		}
	case code.TryLock:
		tell(one(take()))
	case code.LockCtx:
		open, e := w.under(t, i, a)
		switch {
		case !open:
			return e
		case take():
			tell(0)
		default:
			m.row = append(m.row, t)
			w.park(t, machine.Mutex, o, int(a), i.A, -1, 0)
		}
	case code.Unlock:
		return w.unlock(t, o)
	case code.RLock, code.WLock:
		if l.writer == t || slices.Contains(l.readers, t) {
			return api.ErrHeld
		}
		if i.Op == code.RLock {
			l.read = append(l.read, t)
		} else {
			l.write = append(l.write, t)
		}
		if w.giveRW(o) == nil {
			w.park(t, machine.RW, o, -1, -1, -1, 0)
		}
	case code.RWUnlock:
		readers, did := without(l.readers, t)
		switch {
		case l.writer == t:
			l.writer = -1
		case did:
			l.readers = readers
		default:
			return api.ErrHeld
		}
		w.wakeRow(w.giveRW(o), 0)
	default:
		return w.doCond(t, i, a)
	}
	return api.OK
}

func (w *world) doCond(t int, i code.Instr, a int64) api.Errno {
	o := int(i.N)
	switch i.Op {
	case code.Wait, code.WaitCtx:
		if w.mutexes[i.B].holder != t {
			return api.ErrHeld
		}
		ctx, reg := -1, -1
		if i.Op == code.WaitCtx {
			open, e := w.under(t, i, a)
			if !open {
				return e
			}
			ctx, reg = int(a), i.A
		}
		w.conds[o] = append(w.conds[o], waiter{t, i.B})
		w.park(t, machine.Cond, o, ctx, reg, i.B, 0)
		w.unlock(t, i.B)
	case code.Signal, code.Broadcast:
		l := w.conds[o]
		if i.Op == code.Signal && len(l) > 1 {
			l = l[:1]
		}
		w.conds[o] = w.conds[o][len(l):]
		for _, x := range l {
			w.again(x.task, x.lock, 0)
		}
	}
	return api.OK
}

func (w *world) doRoom(t int, i code.Instr, a, b int64) api.Errno {
	o := int(i.N)
	tell := func(x int64) { w.tasks[t].Regs[i.A] = x }
	c, g, s := &w.onces[o], &w.groups[o], &w.semas[o]
	fits := func(n int64) bool { return len(s.wants) == 0 && n <= s.most-s.held }
	switch i.Op {
	case code.OnceBegin:
		switch {
		case c.state == 0:
			c.state, c.by = 1, t
			tell(1)
		case c.state == 2:
			tell(0)
		case c.by == t:
			return api.ErrHeld
		default:
			c.row = append(c.row, t)
			w.park(t, machine.Once, o, -1, i.A, -1, 0)
		}
	case code.OnceEnd:
		if c.state != 1 || c.by != t {
			return api.ErrHeld
		}
		l := c.row
		*c = thing{state: 2, by: -1}
		w.wakeRow(l, 0)
	case code.GroupAdd:
		z := new(big.Int).Add(big.NewInt(g.count), big.NewInt(a))
		switch {
		case z.Sign() < 0:
			return api.ErrArg
		case !z.IsInt64():
			return api.ErrFull
		}
		g.count = z.Int64()
		if g.count == 0 {
			l := g.row
			g.row = nil
			w.wakeRow(l, 0)
		}
	case code.GroupWait:
		if g.count != 0 {
			g.row = append(g.row, t)
			w.park(t, machine.Group, o, -1, -1, -1, 0)
		}
	case code.Acquire:
		open, e := w.under(t, i, a)
		switch {
		case !open:
			return e
		case b < 0:
			return api.ErrArg
		case b > s.most:
			s.never = append(s.never, want{t, b})
		case fits(b):
			s.held += b
			tell(0)
			return api.OK
		default:
			s.wants = append(s.wants, want{t, b})
		}
		w.park(t, machine.Sema, o, int(a), i.A, -1, 0)
	case code.TryAcquire:
		if b < 0 {
			return api.ErrArg
		}
		is := fits(b)
		if is {
			s.held += b
		}
		tell(one(is))
	case code.Release:
		switch {
		case a < 0:
			return api.ErrArg
		case a > s.held:
			return api.ErrHeld
		}
		s.held -= a
		w.giveRoom(o)
	}
	return api.OK
}

func (w *world) doTeam(t int, i code.Instr, a, b int64) api.Errno {
	o := int(i.N)
	tell := func(x int64) { w.tasks[t].Regs[i.A] = x }
	c := &w.teams[o]
	switch i.Op {
	case code.Go, code.TryGo:
		switch {
		case i.B >= len(w.programs):
			return api.ErrName
		case len(w.tasks) == 16:
			return api.ErrFull
		case c.limit < 0 || c.active < c.limit:
			c.active++
			n, _ := w.begin(i.B, o)
			tell(int64(n))
		case i.Op == code.TryGo:
			tell(-1)
		default:
			c.callers = append(c.callers, t)
			w.park(t, machine.Caller, o, -1, i.A, -1, int64(i.B))
		}
	case code.SetLimit:
		switch {
		case c.active > 0 || len(c.callers) > 0:
			return api.ErrBusy
		case a < 0:
			c.limit = -1
		default:
			c.limit = int(min(a, 1000))
		}
	case code.TeamWait:
		if c.active == 0 {
			tell(c.first)
		} else {
			c.waiters = append(c.waiters, t)
			w.park(t, machine.Waiter, o, -1, i.A, -1, 0)
		}
	default:
		return w.doFlight(t, i, a, b)
	}
	return api.OK
}

func (w *world) doFlight(t int, i code.Instr, a, b int64) api.Errno {
	o := int(i.N)
	led := slices.IndexFunc(w.flights[o], func(x call) bool { return x.leader == t })
	of := func(key int64) int {
		return slices.IndexFunc(w.flights[o], func(x call) bool { return x.open && x.key == key })
	}
	switch i.Op {
	case code.Do:
		if led >= 0 {
			return api.ErrHeld
		}
		n := of(b)
		if n < 0 {
			w.flights[o] = append(w.flights[o], call{leader: t, key: b, open: true})
			w.tasks[t].Regs[i.A] = 1
			return api.OK
		}
		w.flights[o][n].joined = append(w.flights[o][n].joined, t)
		w.park(t, machine.Flight, o, -1, i.A, -1, 0)
	case code.Finish:
		if led < 0 {
			return api.ErrHeld
		}
		l := w.flights[o][led].joined
		w.flights[o] = slices.Delete(w.flights[o], led, led+1)
		w.wakeRow(l, a)
	case code.Forget:
		if n := of(a); n >= 0 {
			w.flights[o][n].open = false
		}
	}
	return api.OK
}

// shot is how all is.
func (w *world) shot() machine.Shot {
	s := machine.Shot{Now: w.now, Tasks: slices.Clone(w.tasks), Next: math.MaxInt64, Begun: len(w.tasks)}
	for _, x := range w.ctxs {
		s.Errs, s.Causes = append(s.Errs, x.err), append(s.Causes, x.cause)
	}
	for _, x := range w.alarms {
		s.Next = min(s.Next, x.at)
	}
	for o := range api.MostObjs {
		s.Holders[o], s.Writers[o], s.Readers[o] = w.mutexes[o].holder, w.rws[o].writer, len(w.rws[o].readers)
		s.States[o], s.Counts[o], s.Held[o] = w.onces[o].state, w.groups[o].count, w.semas[o].held
		s.Active[o], s.Firsts[o] = w.teams[o].active, w.teams[o].first
	}
	return s
}
