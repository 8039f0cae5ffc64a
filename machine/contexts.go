package machine

import (
	"countermand/api"
	"countermand/code"
	"countermand/sat"
)

// ofContexts tells what does an Op of contexts, and of what comes after them.
func (s *step) ofContexts(op int) instruction {
	switch op {
	case code.WithCancel:
		return s.withCancel
	case code.WithTimeout:
		return s.withTimeout
	case code.WithValue:
		return s.withValue
	case code.WithoutCancel:
		return s.withoutCancel
	case code.Cancel:
		return s.cancel
	case code.Err:
		return s.err
	case code.Cause:
		return s.cause
	case code.Value:
		return s.value
	case code.Await:
		return s.await
	case code.After:
		return s.after
	}
	return s.stopAfter
}

func (s *step) withCancel(x turn) api.Errno {
	return s.makeBelow(x, s.contexts.WithCancel)
}

func (s *step) withTimeout(x turn) api.Errno {
	return s.makeBelow(x, func(over int) (int, api.Errno) {
		at := sat.Add(s.clock.Now(), x.N)
		c, e := s.contexts.WithDeadline(over, at, 0, s.clock.Now())
		if e == api.OK && !s.contexts.Done(c) {
			s.clock.Set(api.MostTasks+c, at)
		}
		return c, e
	})
}

func (s *step) withValue(x turn) api.Errno {
	return s.makeBelow(x, func(over int) (int, api.Errno) {
		return s.contexts.WithValue(over, x.N, x.a)
	})
}

func (s *step) withoutCancel(x turn) api.Errno {
	return s.makeBelow(x, s.contexts.WithoutCancel)
}

func (s *step) cancel(x turn) api.Errno {
	c, e := s.context(x.a)
	if e == api.OK {
		s.follow(s.contexts.Cancel(c, x.N))
	}
	return e
}

func (s *step) err(x turn) api.Errno {
	return s.tellOf(x, func(c int) int64 { return int64(s.contexts.Err(c)) })
}

func (s *step) cause(x turn) api.Errno {
	return s.tellOf(x, s.contexts.Cause)
}

func (s *step) value(x turn) api.Errno {
	return s.tellOf(x, func(c int) int64 {
		n, _ := s.contexts.Value(c, x.N)
		return n
	})
}

func (s *step) await(x turn) api.Errno {
	return s.under(x, func(c int) api.Errno {
		s.parkUnder(x, c, Await, 0)
		return api.OK
	})
}

func (s *step) after(x turn) api.Errno {
	c, e := s.context(x.b)
	if e != api.OK {
		return e
	}
	program := int(x.N)
	if !s.hasProgram(program) {
		return api.ErrName
	}
	n, e := s.afters.Add(c, program)
	if e != api.OK {
		return e
	}
	s.tell(x, int64(n))
	if s.contexts.Done(c) {
		s.beginAfter(c)
	}
	return api.OK
}

func (s *step) stopAfter(x turn) api.Errno {
	n, is := within(x.a, api.MostAfter)
	s.tellWhether(x, is && s.afters.Stop(n))
	return api.OK
}

// context tells the context of a number.
func (s *step) context(n int64) (int, api.Errno) {
	c, is := within(n, s.contexts.Len())
	if !is {
		return none, api.ErrName
	}
	return c, api.OK
}

// makeBelow makes a context below the context b, and tells its number.
func (s *step) makeBelow(x turn, with func(over int) (int, api.Errno)) api.Errno {
	over, e := s.context(x.b)
	if e != api.OK {
		return e
	}
	c, e := with(over)
	if e == api.OK {
		s.tell(x, int64(c))
	}
	return e
}

// tellOf tells something of the context b.
func (s *step) tellOf(x turn, of func(c int) int64) api.Errno {
	c, e := s.context(x.b)
	if e == api.OK {
		s.tell(x, of(c))
	}
	return e
}

// under does something under the context a; if that is done, its error is told instead.
func (s *step) under(x turn, do func(c int) api.Errno) api.Errno {
	c, e := s.context(x.a)
	switch {
	case e != api.OK:
		return e
	case s.contexts.Done(c):
		s.tell(x, int64(s.contexts.Err(c)))
		return api.OK
	}
	return do(c)
}

// askUnder asks for something, tells 0 where that is given, and else parks the task whose turn it is under a context.
func (s *step) askUnder(x turn, c, kind int, give func(t int) (bool, api.Errno)) api.Errno {
	given, e := give(x.who)
	switch {
	case e != api.OK:
		return e
	case given:
		s.tell(x, 0)
	default:
		s.parkUnder(x, c, kind, x.N)
	}
	return api.OK
}

// parkUnder parks the task whose turn it is under a context.
func (s *step) parkUnder(x turn, c, kind int, object int64) {
	p := into(waitFor(kind, object), x.A)
	p.Ctx = c
	s.park(x.who, p)
}

// follow lets come what comes of contexts that are done now.
func (s *step) follow(done []int) {
	for _, c := range done {
		s.happens(Done, none, c, int64(s.contexts.Err(c)))
	}
	for _, c := range done {
		s.clear(c)
	}
	s.beginAfter(done...)
}

// clear lets all leave who are parked under a context that is done.
func (s *step) clear(c int) {
	err := int64(s.contexts.Err(c))
	// They are asked for anew each time: whoever leaves may let others be given what they waited for.
	for l := s.tasks.Under(c); len(l) > 0; l = s.tasks.Under(c) {
		s.leave(l[0], err)
	}
}

// leave lets a task that is parked under a context leave, by that one's error.
func (s *step) leave(t int, err int64) {
	p := s.waitOf(t)
	o := s.objects[p.Obj]
	switch p.Kind {
	case Mutex:
		o.Mutex.Leave(t)
		s.wake(t, err)
	case Sema:
		given, _ := o.Sema.Leave(t)
		s.wake(t, err)
		s.wakeAll(given, 0)
	case Cond:
		told, _ := o.Cond.Leave(t)
		s.lockAgain(told, err)
	default:
		s.wake(t, err)
	}
}

// beginAfter begins what comes after contexts that are done.
func (s *step) beginAfter(done ...int) {
	for _, n := range s.afters.Fire(done...) {
		s.beginAlone(s.afters.Rows()[n].Thing)
	}
}

// within tells a number as one that is from 0 on, and less than so many.
func within(n int64, many int) (int, bool) {
	if n < 0 || n >= int64(many) {
		return 0, false
	}
	return int(n), true
}
