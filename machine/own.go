package machine

import (
	"countermand/api"
	"countermand/code"
	"countermand/sat"
)

// ofTheTask tells what does an Op of a task's own: of its registers, its place, its end, and the time.
func (s *step) ofTheTask(op int) instruction {
	switch op {
	case code.Halt:
		return s.halt
	case code.Set:
		return s.set
	case code.Move:
		return s.move
	case code.Add:
		return s.add
	case code.Zero:
		return s.zero
	case code.Less:
		return s.less
	case code.Spawn:
		return s.spawn
	case code.Now:
		return s.now
	case code.Sleep:
		return s.sleep
	}
	return s.yield
}

func (s *step) halt(x turn) api.Errno {
	s.end(x.who, 0)
	return api.OK
}

func (s *step) set(x turn) api.Errno {
	s.tell(x, x.N)
	return api.OK
}

func (s *step) move(x turn) api.Errno {
	s.tell(x, x.b)
	return api.OK
}

func (s *step) add(x turn) api.Errno {
	s.tell(x, sat.Add(x.a, x.b))
	return api.OK
}

func (s *step) zero(x turn) api.Errno {
	s.goIf(x, x.a == 0)
	return api.OK
}

func (s *step) less(x turn) api.Errno {
	s.goIf(x, x.a < x.b)
	return api.OK
}

func (s *step) yield(turn) api.Errno { return api.OK }

func (s *step) spawn(x turn) api.Errno {
	t, e := s.begin(x.B, none)
	if e == api.OK {
		s.tell(x, int64(t))
	}
	return e
}

func (s *step) now(x turn) api.Errno {
	s.tell(x, s.clock.Now())
	return api.OK
}

func (s *step) sleep(x turn) api.Errno {
	if x.a > 0 {
		// Who does something doesn't sleep, so that its key has no alarm.
		s.clock.After(x.who, x.a)
		s.park(x.who, waitFor(Sleep, 0))
	}
	return api.OK
}

// goIf lets the task whose turn it is be at the place N, if something is so.
func (s *step) goIf(x turn, is bool) {
	if is {
		s.tasks.Go(x.who, int(x.N))
	}
}
