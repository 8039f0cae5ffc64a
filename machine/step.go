package machine

import (
	"countermand/api"
	"countermand/code"
	"countermand/task"
)

// step is what happens by an item: it is the machine itself, and tells the events.
type step struct {
	*Machine
	events []Event
}

// turn is a task's turn: the instruction that it does, and what its registers A and B have ahead of it.
type turn struct {
	code.Instr
	who  int
	a, b int64
}

// instruction does what a task's turn asks for. It is a method value of the step in which that happens.
type instruction func(x turn) api.Errno

// pick lets a task have its turn.
func (s *step) pick(t int) api.Errno {
	one, is := s.tasks.Get(t)
	switch {
	case !is:
		return api.ErrName
	case one.State != task.Ready:
		return api.ErrBusy
	}
	program := s.programs[one.Prog]
	if one.At >= len(program) {
		s.end(t, 0)
		return api.OK
	}
	s.tasks.Go(t, one.At+1)
	return s.take(t, one, program[one.At])
}

// take lets a task do an instruction.
func (s *step) take(t int, one task.Task, x code.Instr) api.Errno {
	do := s.instruction(x.Op)
	return do(turn{Instr: x, who: t, a: register(one, x.A), b: register(one, x.B)})
}

// instruction tells what does an Op.
func (s *step) instruction(op int) instruction {
	switch {
	case op < code.WithCancel:
		return s.ofTheTask(op)
	case op < code.Lock:
		return s.ofContexts(op)
	case op < code.OnceBegin:
		return s.ofLocks(op)
	case op < code.Go:
		return s.ofRooms(op)
	}
	return s.ofTeams(op)
}

// goOn lets the clock go on.
func (s *step) goOn(d int64) {
	alarms := s.clock.By(d)
	s.happens(Clock, none, 0, s.clock.Now())
	for _, x := range alarms {
		s.happens(Rang, none, x.Key, x.At)
		if x.Key < api.MostTasks {
			s.wake(x.Key, 0)
			continue
		}
		s.follow(s.contexts.Due(x.At))
	}
}

// begin begins a program in a team, or in none, and tells the new task.
func (s *step) begin(program, team int) (int, api.Errno) {
	if !s.hasProgram(program) {
		return none, api.ErrName
	}
	t, e := s.tasks.Begin(program, team)
	if e == api.OK {
		s.happens(Began, t, program, int64(team))
	}
	return t, e
}

// beginAlone begins a program in no team, by itself: no task is told.
func (s *step) beginAlone(program int) {
	_, e := s.begin(program, none)
	s.fail(none, e)
}

// park lets a task wait.
func (s *step) park(t int, p task.Park) {
	s.tasks.Park(t, p)
	s.happens(Parked, t, p.Kind, int64(p.Obj))
}

// wake lets a task wait no more, and tells it a number.
func (s *step) wake(t int, x int64) {
	kind := s.waitOf(t).Kind
	s.tasks.Wake(t, x)
	s.happens(Woken, t, kind, x)
}

// wakeAll wakes several, in order.
func (s *step) wakeAll(l []int, x int64) {
	for _, t := range l {
		s.wake(t, x)
	}
}

// end ends a task.
func (s *step) end(t int, err int64) {
	one, _ := s.tasks.Get(t)
	s.tasks.End(t, err)
	s.happens(Ended, t, 0, err)
	if one.Team != none {
		s.leaveTeam(one.Team, err)
	}
}

// leaveTeam lets a member's place in a team be over.
func (s *step) leaveTeam(n int, err int64) {
	o := s.objects[n].Team
	// Whoever is a member is at work: this can't fail.
	ended, _ := o.End(err)
	s.wakeAll(ended.Waiters, o.First())
	if ended.Caller != none {
		s.giveCaller(n, ended.Caller)
	}
}

// giveCaller begins in a team what a caller waits to begin there.
func (s *step) giveCaller(n, caller int) {
	t, e := s.begin(int(s.waitOf(caller).N), n)
	s.fail(caller, e)
	s.wake(caller, int64(t))
	if e != api.OK {
		// The caller was given a place already, that nobody works at now.
		s.leaveTeam(n, 0)
	}
}

// fail tells an error, if it is one.
func (s *step) fail(t int, e api.Errno) {
	if e != api.OK {
		s.happens(Failed, t, 0, int64(e))
	}
}

// happens tells an event.
func (s *step) happens(kind, t, a int, n int64) {
	s.events = append(s.events, Event{Kind: kind, Task: t, A: a, N: n})
}

// tell lets the task whose turn it is have a number in its register A.
func (s *step) tell(x turn, n int64) { s.tasks.Set(x.who, x.A, n) }

// tellWhether tells 1 or 0.
func (s *step) tellWhether(x turn, is bool) {
	if is {
		s.tell(x, 1)
		return
	}
	s.tell(x, 0)
}

// ask asks for something, and parks the task whose turn it is where it isn't given that.
func (s *step) ask(x turn, kind int, give func(t int) (bool, api.Errno)) api.Errno {
	given, e := give(x.who)
	if e == api.OK && !given {
		s.park(x.who, waitFor(kind, x.N))
	}
	return e
}

// waitOf tells what a task waits for.
func (s *step) waitOf(t int) task.Park {
	one, _ := s.tasks.Get(t)
	return one.Wait
}

func (s *step) hasProgram(n int) bool { return n >= 0 && n < len(s.programs) }

// waitFor is a wait of a kind for an object, of which nothing else is said.
func waitFor(kind int, object int64) task.Park {
	return task.Park{Kind: kind, Obj: int(object), Ctx: none, Reg: none, Lock: none}
}

// into is a wait behind which what is told comes into a register.
func into(p task.Park, reg int) task.Park {
	p.Reg = reg
	return p
}

// register tells what a register has. Where an instruction asks for something else there, there needn't be such a one.
func register(one task.Task, n int) int64 {
	if n >= len(one.Regs) {
		return 0
	}
	return one.Regs[n]
}
