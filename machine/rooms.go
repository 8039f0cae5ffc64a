package machine

import (
	"countermand/api"
	"countermand/code"
	"countermand/once"
)

// ofRooms tells what does an Op of onces, groups and semaphores.
func (s *step) ofRooms(op int) instruction {
	switch op {
	case code.OnceBegin:
		return s.onceBegin
	case code.OnceEnd:
		return s.onceEnd
	case code.GroupAdd:
		return s.groupAdd
	case code.GroupWait:
		return s.groupWait
	case code.Acquire:
		return s.acquire
	case code.TryAcquire:
		return s.tryAcquire
	}
	return s.release
}

func (s *step) onceBegin(x turn) api.Errno {
	was, e := s.objects[x.N].Once.Begin(x.who)
	switch {
	case e != api.OK:
		return e
	case was == once.Doing:
		s.park(x.who, into(waitFor(Once, x.N), x.A))
	default:
		s.tellWhether(x, was == once.Fresh)
	}
	return api.OK
}

func (s *step) onceEnd(x turn) api.Errno {
	waited, e := s.objects[x.N].Once.End(x.who)
	s.wakeAll(waited, 0)
	return e
}

func (s *step) groupAdd(x turn) api.Errno {
	waited, e := s.objects[x.N].Group.Add(x.a)
	s.wakeAll(waited, 0)
	return e
}

func (s *step) groupWait(x turn) api.Errno {
	return s.ask(x, Group, s.objects[x.N].Group.Wait)
}

func (s *step) acquire(x turn) api.Errno {
	return s.under(x, func(c int) api.Errno {
		return s.askUnder(x, c, Sema, func(t int) (bool, api.Errno) {
			return s.objects[x.N].Sema.Acquire(t, x.b)
		})
	})
}

func (s *step) tryAcquire(x turn) api.Errno {
	is, e := s.objects[x.N].Sema.TryAcquire(x.who, x.b)
	if e == api.OK {
		s.tellWhether(x, is)
	}
	return e
}

func (s *step) release(x turn) api.Errno {
	given, e := s.objects[x.N].Sema.Release(x.a)
	s.wakeAll(given, 0)
	return e
}
