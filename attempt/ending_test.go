package attempt_test

import (
	"testing"

	"strongtx/api"
	"strongtx/attempt"
)

// P19.2, P19.3: an attempt that stores nothing takes a turn and is decided, whatever the clock is; it has no version.
func TestEndWithoutLog(t *testing.T) {
	for _, end := range []int{api.OutCommitted, api.OutUser} {
		for _, clock := range []uint64{rv, 11, 99, 100, 101, api.MaxVersion} {
			s := begun(t, config)
			s.read(3)
			s.read(0)
			put(t, s.m, api.CellClock, 0, clock)
			s.askEnd(end)
			s.do(local, code(end))
			s.turn()
			s.checks(3, 0)
			s.decide(decided(-1))
			s.pass()
			s.leaves()
			if i := s.m.Image(); i.Clock != clock || i.Serving != ticket+1 {
				t.Fatal(i)
			}
		}
	}
	s := begun(t, config)
	s.commitNothing()
}

// commitNothing checks the commit of an attempt without reads and writes.
func (s *session) commitNothing() {
	s.t.Helper()
	s.askEnd(api.OutCommitted)
	s.do(local, code(api.OutCommitted))
	s.turn()
	s.decide(decided(-1))
	s.pass()
	s.leaves()
}

// P19.2, P19.3: an attempt that is aborted locks and writes nothing, and has no version; its log is shown.
func TestAbort(t *testing.T) {
	for _, clock := range []uint64{rv, 99, 100, api.MaxVersion} {
		s := begun(t, config)
		s.read(3)
		s.write(3, 7)
		s.write(1, 8)
		before := s.m.Image().Orec
		put(t, s.m, api.CellClock, 0, clock)
		put(t, s.m, api.CellOrec, 1, held(t, 1, 0))
		s.askEnd(api.OutUser)
		s.do(local, code(api.OutUser))
		s.turn()
		s.checks(3)
		s.decide(decided(-1))
		s.pass()
		s.leaves()
		s.data(map[int]uint64{1: 101, 3: 103})
		if i := s.m.Image(); i.Clock != clock || i.Orec[3] != before[3] {
			t.Fatal(i)
		}
	}
}

// P19.2: the ownership records of the log are locked in ascending order, each once; those of the read set that the attempt holds itself are valid.
func TestCommit(t *testing.T) {
	s := begun(t, config)
	s.read(9) // the ownership record 2
	s.read(5)
	s.write(12, 1) // 5
	s.write(9, 2)  // 2
	s.write(0, 3)
	s.write(2, 4) // 2
	s.commitAfter([]int{2, 5}, []int{0, 2, 5}, 12, 1, 9, 2, 0, 3, 2, 4)
	s.data(map[int]uint64{0: 3, 2: 4, 5: 105, 9: 2, 12: 1})

	c := config
	c.Orecs = 1
	s = begun(t, c)
	s.write(12, 1)
	s.write(0, 2)
	s.write(7, 3)
	s.commit([]int{0}, 12, 1, 0, 2, 7, 3)
}

// P19.3: the version follows the clock of the decision, which may be newer than the snapshot.
func TestVersion(t *testing.T) {
	for _, clock := range []uint64{rv, 11, 50, 98, 99} {
		s := begun(t, config)
		s.read(2)
		s.write(3, 7)
		put(t, s.m, api.CellClock, 0, clock-1)
		s.askEnd(api.OutCommitted)
		s.do(local, code(api.OutCommitted))
		s.locks(3)
		s.turn()
		s.checks(2)
		put(t, s.m, api.CellClock, 0, clock)
		s.decide(decided(int(clock) + 1))
		s.do(store(api.PhaseWrite, api.CellData, 3, 7))
		s.releases(int(clock)+1, 3)
		s.do(store(api.PhaseStamp, api.CellClock, 0, clock+1))
		s.pass()
		s.leaves()
	}
	c := config
	c.Clock = api.MaxVersion
	s := begun(t, c)
	put(t, s.m, api.CellClock, 0, api.MaxVersion-1)
	s.write(3, 7)
	s.commit([]int{3}, 3, 7)
	if i := s.m.Image(); i.Clock != api.MaxVersion || i.Orec[3] != free(t, api.MaxVersion) {
		t.Fatal(i)
	}
}

// P19.2: when the clock has reached the greatest version, a commit with a log is not decided: the ownership records become as they were, and the blocks go back.
func TestClock(t *testing.T) {
	for _, x := range []struct {
		greatest int
		clock    uint64
	}{{100, 100}, {100, 101}, {100, api.MaxVersion}, {11, 11}, {10, 10}, {1, 10}, {0, 10}, {api.MaxVersion, api.MaxVersion}} {
		c := config
		c.Clock = x.greatest
		s := begun(t, c)
		s.read(3)
		s.alloc(1, 2)
		s.write(1, 7)
		put(t, s.m, api.CellOrec, 6, free(t, 77))
		put(t, s.m, api.CellClock, 0, x.clock)
		before := s.m.Image().Orec
		s.askEnd(api.OutCommitted)
		s.do(local, code(api.OutCommitted))
		s.locks(0, 1, 4, 6)
		s.turn()
		s.checks(3)
		s.decide(code(api.OutClock))
		for _, o := range []int{0, 1, 4, 6} {
			s.do(store(api.PhaseRelease, api.CellOrec, o, before[o]))
		}
		s.pass()
		s.pushes(1, 2)
		s.leaves()
		s.data(map[int]uint64{1: 101, 6: 106, 7: 107, 18: 0})
		if i := s.m.Image(); i.Clock != x.clock {
			t.Fatal(i)
		}
	}
}

// P19.2: an ownership record that is held is loaded again and again; so it is after a swap that failed.
func TestWaitForLock(t *testing.T) {
	s := begun(t, config)
	s.write(3, 7)
	s.write(1, 8)
	put(t, s.m, api.CellOrec, 1, held(t, 1, 0))
	put(t, s.m, api.CellOrec, 3, held(t, 3, 2))
	s.askEnd(api.OutCommitted)
	s.do(local, code(api.OutCommitted))
	for range 5 {
		s.do(load(api.PhaseLook, api.CellOrec, 1))
	}
	put(t, s.m, api.CellOrec, 1, free(t, 11))
	s.do(load(api.PhaseLook, api.CellOrec, 1))
	put(t, s.m, api.CellOrec, 1, held(t, 11, 2))
	s.steps(miss(api.PhaseLock, api.CellOrec, 1), load(api.PhaseLook, api.CellOrec, 1))
	put(t, s.m, api.CellOrec, 1, free(t, 11))
	s.do(load(api.PhaseLook, api.CellOrec, 1))
	put(t, s.m, api.CellOrec, 1, free(t, 12))
	s.do(miss(api.PhaseLock, api.CellOrec, 1))
	s.locks(1)
	s.steps(load(api.PhaseLook, api.CellOrec, 3), load(api.PhaseLook, api.CellOrec, 3))
	put(t, s.m, api.CellOrec, 3, free(t, 3))
	s.locks(3)
	put(t, s.m, api.CellClock, 0, 12)
	s.turn()
	s.commits([]int{1, 3}, 3, 7, 1, 8)
}

// P19.2: the serving counter is loaded until it is the ticket; other attempts may have tickets in between.
func TestWaitForTurn(t *testing.T) {
	for _, end := range []int{api.OutCommitted, api.OutUser} {
		s := begun(t, config)
		s.read(3)
		put(t, s.m, api.CellServing, 0, ticket-2)
		s.askEnd(end)
		s.do(local, code(end))
		s.do(step{api.PhaseTicket, api.AccAdd, api.CellTicket, 0, ticket + 1, false})
		put(t, s.m, api.CellTicket, 0, ticket+3)
		for _, serving := range []uint64{ticket - 2, ticket - 2, ticket - 1, ticket - 1, ticket} {
			put(t, s.m, api.CellServing, 0, serving)
			s.do(load(api.PhaseTurn, api.CellServing, 0))
		}
		s.checks(3)
		s.decide(decided(-1))
		s.pass()
		s.leaves()
	}
}

// ends lists requests by which an attempt begins to end, after which it has no locks.
var ends = []struct {
	code int
	ask  func(s *session)
}{
	{api.OutUser, func(s *session) { s.askEnd(api.OutUser) }},
	{api.OutAddress, func(s *session) { s.askRead(16) }},
	{api.OutAddress, func(s *session) { s.askWrite(17, 1) }},
	{api.OutFree, func(s *session) { s.askFree(3) }},
}

// wide returns a configuration with a log of eight places.
func wide() api.Config {
	c := config
	c.Writes = 8
	return c
}

// P19.2: after a failed validation the code is OutConflict, whatever it was; the turn is passed, and the blocks go back.
func TestFailure(t *testing.T) {
	for _, end := range ends {
		for failing := range 3 {
			s := begun(t, wide())
			set := []int{3, 0, 2}
			for _, o := range set {
				s.read(o)
			}
			s.alloc(0, 0)
			s.alloc(1, 2)
			put(t, s.m, api.CellOrec, set[failing], free(t, rv+1))
			end.ask(s)
			s.do(local, code(end.code))
			s.turn()
			s.checks(set[:failing]...)
			s.do(load(api.PhaseCheck, api.CellOrec, set[failing]), code(api.OutConflict))
			s.pass()
			s.pushes(0, 0)
			s.pushes(1, 2)
			s.leaves()
		}
	}
}

// P19.2: so it is for a commit without a log, and for one with a log, whose ownership records become as they were, also one that failed.
func TestFailureOfCommit(t *testing.T) {
	s := begun(t, config)
	s.read(3)
	put(t, s.m, api.CellOrec, 3, held(t, rv+1, 2))
	s.askEnd(api.OutCommitted)
	s.do(local, code(api.OutCommitted))
	s.turn()
	s.do(load(api.PhaseCheck, api.CellOrec, 3), code(api.OutConflict))
	s.pass()
	s.leaves()

	s = begun(t, config)
	s.read(3)
	s.read(5)
	s.alloc(1, 2)
	s.write(5, 9)
	put(t, s.m, api.CellOrec, 5, free(t, rv+2))
	put(t, s.m, api.CellOrec, 4, free(t, rv+5))
	s.askEnd(api.OutCommitted)
	s.do(local, code(api.OutCommitted))
	s.locks(0, 4, 5, 6)
	s.turn()
	s.checks(3)
	s.do(load(api.PhaseCheck, api.CellOrec, 5), code(api.OutConflict))
	s.releases(0, 0)
	s.releases(rv+5, 4)
	s.releases(rv+2, 5)
	s.releases(6, 6)
	s.pass()
	s.pushes(1, 2)
	s.leaves()
	s.data(map[int]uint64{5: 105, 6: 106, 18: 0})
}

// P19.2: a version that is not newer than the snapshot is valid, also if another thread holds the record; and what is only written may be newer.
func TestValid(t *testing.T) {
	s := begun(t, config)
	s.read(3)
	s.read(5)
	s.write(1, 8)
	put(t, s.m, api.CellOrec, 3, held(t, rv, 2))
	put(t, s.m, api.CellOrec, 5, free(t, rv))
	put(t, s.m, api.CellOrec, 1, free(t, rv+1))
	s.commitAfter([]int{3, 5}, []int{1}, 1, 8)
}

// P19.2: the blocks go back in the order of their allocation, also those that were freed, after every end but a commit.
func TestPutBack(t *testing.T) {
	for _, end := range ends {
		s := begun(t, wide())
		s.alloc(1, 2)
		s.alloc(0, 0)
		s.free(2, true)
		end.ask(s)
		s.do(local, code(end.code))
		s.turn()
		s.decide(decided(-1))
		s.pass()
		s.pushes(1, 2)
		s.pushes(0, 0)
		s.leaves()
		s.data(map[int]uint64{16: 0, 18: 0})
	}
	s := begun(t, wide())
	s.alloc(1, 2)
	s.alloc(0, 0)
	s.askRead(1)
	last := s.shared(1)
	put(t, s.m, api.CellOrec, 1, free(t, 0))
	s.do(last, code(api.OutConflict))
	s.pushes(1, 2)
	s.pushes(0, 0)
	s.leaves()
}

// P19.2: a push whose swap fails begins again.
func TestPutBackAgain(t *testing.T) {
	s := begun(t, config)
	s.alloc(0, 0)
	s.askAlloc(3)
	s.do(load(api.PhaseHead, api.CellHead, 3), code(api.OutMemory))
	s.steps(load(api.PhaseTop, api.CellHead, 0), store(api.PhaseLink, api.CellNext, 0, 2))
	put(t, s.m, api.CellHead, 0, head(t, 2, -1))
	s.do(miss(api.PhasePush, api.CellHead, 0))
	s.steps(load(api.PhaseTop, api.CellHead, 0), store(api.PhaseLink, api.CellNext, 0, 0))
	put(t, s.m, api.CellHead, 0, head(t, 3, 1))
	s.do(miss(api.PhasePush, api.CellHead, 0))
	s.pushes(0, 0)
	s.leaves()
}

// P19.2: each thread uses its own slot and its own number.
func TestThreads(t *testing.T) {
	for number := range 3 {
		m := create(t, config)
		a := attempt.New(config, number)
		if e := a.Begin(); e != api.OK {
			t.Fatal(e)
		}
		for a.Busy() {
			a.Step(m)
		}
		if slots := m.Image().Slot; slots[number] != rv+2 {
			t.Fatal(number, slots)
		}
		if e := a.Write(3, 7); e != api.OK {
			t.Fatal(e)
		}
		a.Step(m)
		if e := a.End(api.OutCommitted); e != api.OK {
			t.Fatal(e)
		}
		for range 3 {
			a.Step(m)
		}
		if o := m.Image().Orec[3]; o != held(t, 3, number) {
			t.Fatal(number, o)
		}
		for a.Busy() {
			a.Step(m)
		}
		if slots := m.Image().Slot; slots[number] != 0 {
			t.Fatal(number, slots)
		}
	}
}
