package thread_test

import (
	"slices"
	"testing"

	"strongtx/api"
	"strongtx/word"
)

// free returns the word of a free ownership record.
func free(t *testing.T, version int) uint64 {
	t.Helper()
	o, e := word.Free(version)
	if e != api.OK {
		t.Fatal(version, e)
	}
	return o
}

// touch gives an ownership record a version, as a commit of another thread does.
func (s *session) touch(orec, version int) {
	s.t.Helper()
	put(s.t, s.m, api.CellOrec, orec, free(s.t, version))
	put(s.t, s.m, api.CellClock, 0, uint64(version))
}

// leaves checks the last step of an attempt after which the transaction that begins at b has an outcome.
func (s *session) leaves(attempt, b, code, behind int, changes ...change) {
	s.t.Helper()
	changes = append(changes, outcome(code), sees(b, api.ObsOutcome, uint64(code)), pc(behind))
	s.do(attempt, api.PhaseLeave, changes...)
}

// P20.1, P20.2: a committed transaction keeps its registers, and its observations come with its last step.
func TestCommitted(t *testing.T) {
	s := open(t, config, "const r5 2; begin 3; tread r1 r5 1; add r1 r1 r5; twrite r5 r1 -2; tread r2 r5 -2; alloc r3 1; twrite r3 r1 1; commit; nop")
	s.do(0, api.PhaseLocal, reg(5, 2), next)
	s.begin(1, next)
	s.shared(1, reg(1, 103), next)
	s.do(1, api.PhaseLocal, reg(1, 105), next)
	s.do(1, api.PhaseLocal, next)
	s.do(1, api.PhaseLocal, reg(2, 105), next)
	s.pops(1, reg(3, 6), next)
	s.do(1, api.PhaseLocal, next)
	s.commit(1, 1, 4, 4, []int{3}, []int{0, 6, 7})
	s.leaves(1, 1, api.OutCommitted, 9, sees(2, api.ObsRead, 103), sees(5, api.ObsRead, 105), sees(6, api.ObsAlloc, 6))
	s.do(0, api.PhaseLocal, next)
	s.done()
	if d := s.m.Image().Data; d[0] != 105 || d[6] != 0 || d[7] != 105 || d[18] != 2 {
		t.Fatal(d)
	}
}

// P20.1: the address of a tread or twrite is the sum of its register and Imm modulo 2^64; the register of a tread may be that of its address, and the value of a twrite that of its address.
func TestAddresses(t *testing.T) {
	s := open(t, config, "const r1 -1; const r2 -9223372036854775808; begin 1; tread r3 r1 4; tread r4 r2 -9223372036854775808; tread r3 r3 -101; commit; begin 1; twrite r1 r1 1; const r5 7; twrite r5 r2 -6; twrite r5 r1 8; commit")
	s.do(0, api.PhaseLocal, reg(1, 1<<64-1), next)
	s.do(0, api.PhaseLocal, reg(2, 1<<63), next)
	s.begin(1, next)
	s.shared(1, reg(3, 103), next)
	s.shared(1, reg(4, 100), next)
	s.shared(1, reg(3, 102), next)
	s.do(1, api.PhaseLocal)
	s.turns(1, 3)
	s.do(1, api.PhaseDecide, ends([]int{3, 0, 2}, nil))
	s.do(1, api.PhasePass)
	s.leaves(1, 2, api.OutCommitted, 7, sees(3, api.ObsRead, 103), sees(4, api.ObsRead, 100), sees(5, api.ObsRead, 102))
	s.begin(2, next)
	s.do(2, api.PhaseLocal, next)
	s.do(2, api.PhaseLocal, reg(5, 7), next)
	s.do(2, api.PhaseLocal, next)
	s.do(2, api.PhaseLocal, next)
	s.commit(2, 0, 3, 3, nil, []int{0, 1, 15})
	s.leaves(2, 7, api.OutCommitted, 13)
	s.done()
	if d := s.m.Image().Data; d[0] != 1<<64-1 || d[1] != 1<<63 || d[15] != 1<<64-1 {
		t.Fatal(d)
	}
}

// P20.1, P20.2: a transaction that is not committed leaves its registers as they were, observes its outcome alone, and goes on behind its commit. P20.3: so its registers have no effect.
func TestNotCommitted(t *testing.T) {
	with := func(change func(c *api.Config)) api.Config {
		c := config
		change(&c)
		return c
	}
	// decided checks the rest of an attempt that has read word 3.
	decided := func(s *session, checks int) {
		s.turns(1, checks)
		s.do(1, api.PhaseDecide, ends([]int{3}, nil))
		s.do(1, api.PhasePass)
	}
	for _, x := range []struct {
		text string
		c    api.Config
		code int
		rest func(s *session)
	}{
		{"abort", config, api.OutUser, func(s *session) { s.do(1, api.PhaseLocal); decided(s, 1) }},
		{"twrite r0 r1 1; abort", config, api.OutUser, func(s *session) {
			s.do(1, api.PhaseLocal, next)
			s.do(1, api.PhaseLocal)
			decided(s, 1)
		}},
		{"alloc r1 1; abort", config, api.OutUser, func(s *session) {
			s.pops(1, reg(1, 6), next)
			s.do(1, api.PhaseLocal)
			decided(s, 1)
			s.steps(1, api.PhaseTop, api.PhaseLink, api.PhasePush)
		}},
		{"tread r3 r0 16", config, api.OutAddress, func(s *session) { s.do(1, api.PhaseLocal); decided(s, 1) }},
		{"twrite r0 r1 -1", config, api.OutAddress, func(s *session) { s.do(1, api.PhaseLocal); decided(s, 1) }},
		{"free r2", config, api.OutFree, func(s *session) { s.do(1, api.PhaseLocal); decided(s, 1) }},
		{"free r1", config, api.OutFree, func(s *session) { s.shared(1); decided(s, 2) }},
		{"alloc r1 3", config, api.OutMemory, func(s *session) { s.do(1, api.PhaseHead) }},
		{"alloc r1 0", with(func(c *api.Config) { c.Allocs = 0 }), api.OutCapacity, func(s *session) { s.do(1, api.PhaseLocal) }},
		{"tread r1 r0 4", with(func(c *api.Config) { c.Reads = 1 }), api.OutCapacity, func(s *session) { s.shared(1) }},
		{"alloc r1 0", with(func(c *api.Config) { c.Writes = 1 }), api.OutCapacity, func(s *session) {
			s.pops(1)
			s.steps(1, api.PhaseTop, api.PhaseLink, api.PhasePush)
		}},
		{"twrite r0 r1 0; twrite r0 r1 1", with(func(c *api.Config) { c.Writes = 1 }), api.OutCapacity, func(s *session) {
			s.do(1, api.PhaseLocal, next)
			s.do(1, api.PhaseLocal)
		}},
		{"alloc r1 0; free r1", with(func(c *api.Config) { c.Frees = 0 }), api.OutCapacity, func(s *session) {
			s.pops(1, reg(1, 4), next)
			s.do(1, api.PhaseLocal)
			s.steps(1, api.PhaseTop, api.PhaseLink, api.PhasePush)
		}},
		{"twrite r0 r1 1; jump 1", with(func(c *api.Config) { c.Clock = clock }), api.OutClock, func(s *session) {
			s.do(1, api.PhaseLocal, next)
			s.do(1, api.PhaseLocal, next, next)
			s.do(1, api.PhaseLocal)
			s.locks(1, 1)
			s.turns(1, 1)
			s.steps(1, api.PhaseDecide, api.PhaseRelease, api.PhasePass)
		}},
	} {
		s := open(t, x.c, "const r1 5; begin 2; const r1 6; tread r2 r0 3; "+x.text+"; nop; commit; outcome r7; nop")
		behind := len(s.program) - 2
		s.do(0, api.PhaseLocal, reg(1, 5), next)
		s.begin(1, next)
		s.do(1, api.PhaseLocal, reg(1, 6), next)
		s.shared(1, reg(2, 103), next)
		x.rest(s)
		s.leaves(1, 1, x.code, behind, reg(1, 5), reg(2, 0))
		s.do(0, api.PhaseLocal, reg(7, uint64(x.code)), next)
		s.do(0, api.PhaseLocal, next)
		s.done()
		if i := s.m.Image(); !slices.Equal(i.Data[:16], create(t, x.c).Image().Data[:16]) || i.Clock != clock {
			t.Fatal(i)
		}
	}
}

// P20.1, P20.2: after a conflict the next step executes the begin again, as the next attempt; after Imm attempts the outcome is OutRetry.
func TestRetry(t *testing.T) {
	for _, imm := range []int{1, 2, 3, 8} {
		s := open(t, config, "const r1 5; begin "+string(rune('0'+imm))+"; const r1 6; tread r2 r0 2; tread r3 r0 3; commit; outcome r7")
		s.do(0, api.PhaseLocal, reg(1, 5), next)
		for n := 1; n <= imm; n++ {
			s.begin(n, next)
			s.do(n, api.PhaseLocal, reg(1, 6), next)
			s.shared(n, reg(2, 102), next)
			s.touch(3, clock+n)
			s.do(n, api.PhaseOrec)
			if n < imm {
				s.do(n, api.PhaseLeave, reg(1, 5), reg(2, 0), pc(1))
			}
		}
		s.leaves(imm, 1, api.OutRetry, 6, reg(1, 5), reg(2, 0))
		s.do(0, api.PhaseLocal, reg(7, api.OutRetry), next)
		s.done()
	}
}

// P20.1, P20.2: conflicts at a second load and at the validation; the observations are those of the attempt that is committed.
func TestConflicts(t *testing.T) {
	s := open(t, config, "begin 3; tread r1 r1 3; alloc r2 0; twrite r0 r1 1; commit; nop")
	s.begin(1, next)
	s.steps(1, api.PhaseOrec, api.PhaseData)
	s.touch(3, 11)
	s.do(1, api.PhaseAgain)
	s.do(1, api.PhaseLeave, pc(0))
	put(t, s.m, api.CellData, 3, 203)
	s.begin(2, next)
	s.shared(2, reg(1, 203), next)
	s.pops(2, reg(2, 4), next)
	s.do(2, api.PhaseLocal, next)
	s.touch(3, 12)
	put(t, s.m, api.CellData, 3, 303)
	s.do(2, api.PhaseLocal)
	s.locks(2, 3)
	s.turns(2, 1)
	s.steps(2, api.PhaseRelease, api.PhaseRelease, api.PhaseRelease, api.PhasePass, api.PhaseTop, api.PhaseLink, api.PhasePush)
	s.do(2, api.PhaseLeave, reg(1, 0), reg(2, 0), pc(0))
	s.begin(3, next)
	s.shared(3, reg(1, 303), next)
	s.pops(3, reg(2, 4), next)
	s.do(3, api.PhaseLocal, next)
	s.commit(3, 1, 3, 3, []int{3}, []int{4, 1})
	s.leaves(3, 0, api.OutCommitted, 5, sees(1, api.ObsRead, 303), sees(2, api.ObsAlloc, 4))
	s.do(0, api.PhaseLocal, next)
	s.done()
}

// P20.1: the attempts of each begin are counted for themselves; those of the thread go on.
func TestSecondTransaction(t *testing.T) {
	s := open(t, config, "begin 2; tread r1 r0 3; commit; begin 2; tread r2 r0 3; const r3 1; commit; begin 2; commit")
	s.begin(1, next)
	s.touch(3, 11)
	s.do(1, api.PhaseOrec)
	s.do(1, api.PhaseLeave, pc(0))
	s.begin(2, next)
	s.shared(2, reg(1, 103), next)
	s.do(2, api.PhaseLocal)
	s.turns(2, 1)
	s.do(2, api.PhaseDecide, ends([]int{3}, nil))
	s.do(2, api.PhasePass)
	s.leaves(2, 0, api.OutCommitted, 3, sees(1, api.ObsRead, 103))
	s.begin(3, next)
	s.touch(3, 12)
	s.do(3, api.PhaseOrec)
	s.do(3, api.PhaseLeave, pc(3))
	s.begin(4, next)
	s.touch(3, 13)
	s.do(4, api.PhaseOrec)
	s.leaves(4, 3, api.OutRetry, 7)
	s.begin(5, next)
	s.do(5, api.PhaseLocal)
	s.turns(5, 0)
	s.do(5, api.PhaseDecide, ends(nil, nil))
	s.do(5, api.PhasePass)
	s.leaves(5, 7, api.OutCommitted, 9)
	s.done()
}

// P20.1, P20.2: while an attempt waits, its steps change nothing.
func TestWait(t *testing.T) {
	s := open(t, config, "begin 1; tread r1 r0 3; twrite r0 r1 1; commit")
	s.begin(1, next)
	s.shared(1, reg(1, 103), next)
	s.do(1, api.PhaseLocal, next)
	held, e := word.Held(0, 0)
	if e != api.OK {
		t.Fatal(e)
	}
	put(t, s.m, api.CellOrec, 1, held)
	put(t, s.m, api.CellTicket, 0, 1)
	s.steps(1, api.PhaseLocal, api.PhaseLook, api.PhaseLook, api.PhaseLook)
	put(t, s.m, api.CellOrec, 1, 0)
	s.steps(1, api.PhaseLook, api.PhaseLock, api.PhaseTicket, api.PhaseTurn, api.PhaseTurn)
	put(t, s.m, api.CellServing, 0, 1)
	s.turnComes()
	s.leaves(1, 0, api.OutCommitted, 4, sees(1, api.ObsRead, 103))
	s.done()
}

// turnComes checks the rest of an attempt that has read word 3 and writes word 1, but its last step.
func (s *session) turnComes() {
	s.t.Helper()
	s.steps(1, api.PhaseTurn, api.PhaseCheck)
	s.do(1, api.PhaseDecide, ends([]int{3}, []int{1}))
	s.steps(1, api.PhaseWrite, api.PhaseRelease, api.PhaseStamp, api.PhasePass)
}

// P20.1: a jump may lead over a transaction, and to the commit.
func TestJumpsAround(t *testing.T) {
	s := open(t, config, "jump 3; begin 1; nop; commit; begin 1; jump 1; abort; commit")
	s.do(0, api.PhaseLocal, pc(4))
	s.begin(1, next)
	s.do(1, api.PhaseLocal, pc(7))
	s.do(1, api.PhaseLocal)
	s.turns(1, 0)
	s.do(1, api.PhaseDecide, ends(nil, nil))
	s.do(1, api.PhasePass)
	s.leaves(1, 4, api.OutCommitted, 8)
	s.done()
}
