package machine

import (
	"countermand/api"
	"countermand/code"
)

// ofTeams tells what does an Op of teams and flights.
func (s *step) ofTeams(op int) instruction {
	switch op {
	case code.Go:
		return s.goInTeam
	case code.TryGo:
		return s.tryGo
	case code.SetLimit:
		return s.setLimit
	case code.TeamWait:
		return s.teamWait
	case code.Do:
		return s.do
	case code.Finish:
		return s.finish
	case code.Forget:
		return s.forget
	}
	return s.failBy
}

func (s *step) goInTeam(x turn) api.Errno {
	if e := s.mayBegin(x.B); e != api.OK {
		return e
	}
	// Whose turn it is waits for nothing: this can't fail.
	if is, _ := s.objects[x.N].Team.Go(x.who); is {
		s.beginMember(x)
		return api.OK
	}
	p := into(waitFor(Caller, x.N), x.A)
	p.N = int64(x.B)
	s.park(x.who, p)
	return api.OK
}

func (s *step) tryGo(x turn) api.Errno {
	if e := s.mayBegin(x.B); e != api.OK {
		return e
	}
	if s.objects[x.N].Team.TryGo() {
		s.beginMember(x)
	} else {
		s.tell(x, none)
	}
	return api.OK
}

func (s *step) setLimit(x turn) api.Errno {
	// A limit of as many as there may be tasks is as good as any greater one, and each one below 0 is none.
	return s.objects[x.N].Team.SetLimit(int(max(none, min(x.a, api.MostTasks))))
}

func (s *step) teamWait(x turn) api.Errno {
	o := s.objects[x.N].Team
	// As in goInTeam: this can't fail.
	if idle, _ := o.Wait(x.who); idle {
		s.tell(x, o.First())
	} else {
		s.park(x.who, into(waitFor(Waiter, x.N), x.A))
	}
	return api.OK
}

func (s *step) do(x turn) api.Errno {
	leader, e := s.objects[x.N].Flight.Do(x.who, x.b)
	switch {
	case e != api.OK:
		return e
	case leader == x.who:
		s.tell(x, 1)
	default:
		s.park(x.who, into(waitFor(Flight, x.N), x.A))
	}
	return api.OK
}

func (s *step) finish(x turn) api.Errno {
	joined, e := s.objects[x.N].Flight.Finish(x.who)
	s.wakeAll(joined, x.a)
	return e
}

func (s *step) forget(x turn) api.Errno {
	s.objects[x.N].Flight.Forget(x.a)
	return api.OK
}

func (s *step) failBy(x turn) api.Errno {
	s.end(x.who, x.a)
	return api.OK
}

// mayBegin tells what keeps a program from being begun. It is asked ahead of a team's place: one that is given must be worked at.
func (s *step) mayBegin(program int) api.Errno {
	switch {
	case !s.hasProgram(program):
		return api.ErrName
	case s.tasks.Len() == api.MostTasks:
		return api.ErrFull
	}
	return api.OK
}

// beginMember begins the program B in the team N, where there is a place for it, and tells its number. That it may be begun was asked ahead.
func (s *step) beginMember(x turn) {
	t, _ := s.begin(x.B, int(x.N))
	s.tell(x, int64(t))
}
