package machine

import (
	"countermand/api"
	"countermand/code"
	"countermand/cond"
)

// ofLocks tells what does an Op of mutexes, rw locks and conditions.
func (s *step) ofLocks(op int) instruction {
	switch op {
	case code.Lock:
		return s.lock
	case code.TryLock:
		return s.tryLock
	case code.LockCtx:
		return s.lockCtx
	case code.Unlock:
		return s.unlock
	case code.RLock:
		return s.rLock
	case code.WLock:
		return s.wLock
	case code.RWUnlock:
		return s.rwUnlock
	case code.Wait:
		return s.wait
	case code.WaitCtx:
		return s.waitCtx
	case code.Signal:
		return s.signal
	}
	return s.broadcast
}

func (s *step) lock(x turn) api.Errno {
	return s.ask(x, Mutex, s.objects[x.N].Mutex.Lock)
}

func (s *step) tryLock(x turn) api.Errno {
	// Whose turn it is waits for nothing: this can't fail.
	is, _ := s.objects[x.N].Mutex.TryLock(x.who)
	s.tellWhether(x, is)
	return api.OK
}

func (s *step) lockCtx(x turn) api.Errno {
	return s.under(x, func(c int) api.Errno {
		return s.askUnder(x, c, Mutex, s.objects[x.N].Mutex.Lock)
	})
}

func (s *step) unlock(x turn) api.Errno { return s.handOn(x.who, int(x.N)) }

func (s *step) rLock(x turn) api.Errno {
	return s.ask(x, RW, s.objects[x.N].RW.RLock)
}

func (s *step) wLock(x turn) api.Errno {
	return s.ask(x, RW, s.objects[x.N].RW.Lock)
}

func (s *step) rwUnlock(x turn) api.Errno {
	given, e := s.objects[x.N].RW.Unlock(x.who)
	s.wakeAll(given, 0)
	return e
}

func (s *step) wait(x turn) api.Errno {
	if !s.holds(x.who, x.B) {
		return api.ErrHeld
	}
	s.waitToBeTold(x, none, none)
	return api.OK
}

func (s *step) waitCtx(x turn) api.Errno {
	if !s.holds(x.who, x.B) {
		return api.ErrHeld
	}
	return s.under(x, func(c int) api.Errno {
		s.waitToBeTold(x, c, x.A)
		return api.OK
	})
}

func (s *step) signal(x turn) api.Errno {
	s.lockAllAgain(s.objects[x.N].Cond.Signal())
	return api.OK
}

func (s *step) broadcast(x turn) api.Errno {
	s.lockAllAgain(s.objects[x.N].Cond.Broadcast())
	return api.OK
}

// waitToBeTold parks the task whose turn it is for a condition, under a context or under none, and lets its mutex go.
func (s *step) waitToBeTold(x turn, c, reg int) {
	// Whose turn it is waits for nothing, and holds the mutex: neither can fail.
	s.objects[x.N].Cond.Wait(x.who, x.B)
	p := waitFor(Cond, x.N)
	p.Ctx, p.Reg, p.Lock = c, reg, x.B
	s.park(x.who, p)
	s.handOn(x.who, x.B)
}

// handOn unlocks a mutex that a task holds.
func (s *step) handOn(t, n int) api.Errno {
	next, e := s.objects[n].Mutex.Unlock(t)
	if e == api.OK && next != none {
		s.wake(next, s.waitOf(next).N)
	}
	return e
}

// lockAgain lets one who waited for a condition have its lock again, by a number.
func (s *step) lockAgain(told cond.Told, n int64) {
	// Whoever waited for a condition waits for no mutex: this can't fail.
	given, _ := s.objects[told.Lock].Mutex.Lock(told.Task)
	if given {
		s.wake(told.Task, n)
		return
	}
	p := into(waitFor(Mutex, int64(told.Lock)), s.waitOf(told.Task).Reg)
	p.N = n
	s.tasks.Again(told.Task, p)
}

// lockAllAgain lets all who are told have their locks again.
func (s *step) lockAllAgain(l []cond.Told) {
	for _, told := range l {
		s.lockAgain(told, 0)
	}
}

func (s *step) holds(t, n int) bool { return s.objects[n].Mutex.Holder() == t }
