package thread_test

import (
	"testing"

	"strongtx/api"
)

// strong is config in strong mode.
func strong() api.Config {
	c := config
	c.Strong = true
	return c
}

// P20.1, P20.2: in weak mode a plain access is one load or store.
func TestPlain(t *testing.T) {
	s := open(t, config, "const r1 3; pread r2 r1 12; pwrite r1 r2 -3; pread r1 r1 0; pwrite r2 r2 -113; pread r3 r3 0; nop")
	s.do(0, api.PhaseLocal, reg(1, 3), next)
	for _, x := range []struct {
		kind, addr int
		put        uint64
		changes    []change
	}{
		{api.AccLoad, 15, 115, []change{reg(2, 115), sees(1, api.ObsPlain, 115), event(api.EvRead, 15)}},
		{api.AccStore, 0, 115, []change{sees(2, api.ObsStore, 115), event(api.EvWrite, 0)}},
		{api.AccLoad, 3, 103, []change{reg(1, 103), sees(3, api.ObsPlain, 103), event(api.EvRead, 3)}},
		{api.AccStore, 2, 115, []change{sees(4, api.ObsStore, 115), event(api.EvWrite, 2)}},
		{api.AccLoad, 0, 115, []change{reg(3, 115), sees(5, api.ObsPlain, 115), event(api.EvRead, 0)}},
	} {
		s.do(0, api.PhasePlain, append(x.changes, next)...)
		if s.last.Kind != x.kind || s.last.Index != x.addr || s.last.Put != x.put {
			t.Fatal(s.last)
		}
	}
	s.do(0, api.PhaseLocal, next)
	s.done()
}

// P20.1: in weak mode a plain access does not care for ownership records, and a read with the register of its address sets it.
func TestPlainHeld(t *testing.T) {
	s := open(t, config, "pread r0 r0 3; pwrite r1 r0 3")
	put(t, s.m, api.CellOrec, 3, 64*99+1)
	put(t, s.m, api.CellSlot, 0, 1)
	s.do(0, api.PhasePlain, reg(0, 103), sees(0, api.ObsPlain, 103), event(api.EvRead, 3), next)
	s.do(0, api.PhasePlain, sees(1, api.ObsStore, 103), event(api.EvWrite, 3), next)
	s.done()
}

// P20.1, P20.2: in both modes an access beyond the words is a fault: one local step, after which the register of a pread is 0.
func TestFaults(t *testing.T) {
	for _, c := range []api.Config{config, strong()} {
		s := open(t, c, "const r1 16; pread r1 r1 0; const r2 7; pread r2 r1 18; pwrite r2 r2 16; pread r2 r1 -1; const r3 -1; pwrite r3 r3 0; pread r3 r3 17; pread r4 r1 9223372036854775807; pwrite r1 r4 64")
		fault := func(k int) change { return sees(k, api.ObsFault, api.OutAddress) }
		for k, changes := range [][]change{
			{reg(1, 16)},
			{fault(1), reg(1, 0)},
			{reg(2, 7)},
			{fault(3), reg(2, 0)},
			{fault(4)},
			{fault(5)},
			{reg(3, 1<<64-1)},
			{fault(7)},
			{fault(8), reg(3, 0)},
			{fault(9)},
			{fault(10)},
		} {
			if s.state.Pc != k {
				t.Fatal(s.state)
			}
			s.do(0, api.PhaseLocal, append(changes, next)...)
		}
		s.done()
	}
}

// strongRead checks the steps of a pread in strong mode up to its read of a word.
func (s *session) strongRead(attempt int) {
	s.t.Helper()
	s.begin(attempt)
	s.shared(attempt)
}

// P20.1, P20.2: in strong mode a pread is a transaction of its own, whose register is set at its end.
func TestStrongRead(t *testing.T) {
	s := open(t, strong(), "const r1 3; pread r1 r1 1; pread r2 r0 0")
	s.do(0, api.PhaseLocal, reg(1, 3), next)
	for attempt, x := range []struct {
		addr int
		last []change
	}{
		{4, []change{reg(1, 104), sees(1, api.ObsPlain, 104)}},
		{0, []change{reg(2, 100), sees(2, api.ObsPlain, 100)}},
	} {
		attempt++
		s.strongRead(attempt)
		s.do(attempt, api.PhaseLocal)
		s.turns(attempt, 1)
		s.do(attempt, api.PhaseDecide, ends([]int{x.addr}, nil))
		s.do(attempt, api.PhasePass)
		s.do(attempt, api.PhaseLeave, append(x.last, next)...)
	}
	s.done()
}

// P20.1, P20.2: in strong mode a pwrite is a transaction of its own.
func TestStrongWrite(t *testing.T) {
	s := open(t, strong(), "const r1 3; pwrite r1 r1 2; pwrite r0 r1 0; outcome r7")
	s.do(0, api.PhaseLocal, reg(1, 3), next)
	for attempt, addr := range []int{5, 0} {
		attempt++
		s.begin(attempt)
		s.do(attempt, api.PhaseLocal)
		s.commit(attempt, 0, 1, 1, nil, []int{addr})
		s.do(attempt, api.PhaseLeave, sees(attempt, api.ObsStore, 3), next)
		if i := s.m.Image(); i.Data[addr] != 3 || i.Clock != clock+uint64(attempt) {
			t.Fatal(i)
		}
	}
	s.do(0, api.PhaseLocal, reg(7, api.OutNone), next)
	s.done()
}

// P20.1: a plain access in strong mode makes as many attempts as it needs.
func TestStrongConflicts(t *testing.T) {
	s := open(t, strong(), "const r1 3; pread r1 r1 0; nop")
	s.do(0, api.PhaseLocal, reg(1, 3), next)
	attempt := 0
	for range 7 {
		attempt++
		s.begin(attempt)
		s.touch(3, clock+attempt)
		s.steps(attempt, api.PhaseOrec, api.PhaseLeave)
		attempt++
		s.begin(attempt)
		s.steps(attempt, api.PhaseOrec, api.PhaseData)
		s.touch(3, clock+attempt)
		s.steps(attempt, api.PhaseAgain, api.PhaseLeave)
		attempt++
		s.strongRead(attempt)
		s.do(attempt, api.PhaseLocal)
		s.touch(3, clock+attempt)
		s.turns(attempt, 1)
		s.steps(attempt, api.PhasePass, api.PhaseLeave)
	}
	attempt++
	put(t, s.m, api.CellData, 3, 203)
	s.strongRead(attempt)
	s.do(attempt, api.PhaseLocal)
	s.turns(attempt, 1)
	s.do(attempt, api.PhaseDecide, ends([]int{3}, nil))
	s.do(attempt, api.PhasePass)
	s.do(attempt, api.PhaseLeave, reg(1, 203), sees(1, api.ObsPlain, 203), next)
	s.do(0, api.PhaseLocal, next)
	s.done()
}

// P20.1, P20.2: in strong mode a pwrite is a fault when the clock has reached the greatest version; a pread is not.
func TestStrongClock(t *testing.T) {
	c := strong()
	c.Clock = clock
	s := open(t, c, "const r1 3; pwrite r0 r1 2; pread r2 r0 2; outcome r3")
	s.do(0, api.PhaseLocal, reg(1, 3), next)
	s.begin(1)
	s.steps(1, api.PhaseLocal, api.PhaseLocal, api.PhaseLook, api.PhaseLock, api.PhaseTicket, api.PhaseTurn, api.PhaseDecide, api.PhaseRelease, api.PhasePass)
	s.do(1, api.PhaseLeave, sees(1, api.ObsFault, api.OutClock), next)
	s.strongRead(2)
	s.do(2, api.PhaseLocal)
	s.turns(2, 1)
	s.do(2, api.PhaseDecide, ends([]int{2}, nil))
	s.do(2, api.PhasePass)
	s.do(2, api.PhaseLeave, reg(2, 102), sees(2, api.ObsPlain, 102), next)
	s.do(0, api.PhaseLocal, reg(3, api.OutNone), next)
	s.done()
}
