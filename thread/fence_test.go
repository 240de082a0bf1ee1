package thread_test

import (
	"slices"
	"testing"

	"strongtx/api"
	"strongtx/cells"
	"strongtx/freelist"
	"strongtx/thread"
)

// fences checks a fence for which no thread is too old, up to its drain.
func (s *session) fences(last ...change) {
	s.t.Helper()
	s.steps(0, api.PhaseFence, api.PhaseWatch)
	s.do(0, api.PhaseWatch, last...)
}

// pushes checks the steps of a push that nobody hinders.
func (s *session) pushes(block int, last ...change) {
	s.t.Helper()
	s.steps(0, api.PhaseTop, api.PhaseLink)
	if s.last.Index != block {
		s.t.Fatalf("%v, want block %d", s.last, block)
	}
	s.do(0, api.PhasePush, last...)
}

// fenced is what a fence at this position observes when it is complete.
func fenced(k int) change {
	return func(s *session) {
		sees(k, api.ObsFence, 0)(s)
		s.state.Pc = k + 1
	}
}

// list checks the free blocks of a class.
func (s *session) list(class int, want ...int) {
	s.t.Helper()
	if blocks, e := freelist.List(s.m.Image(), class); e != api.OK || !slices.Equal(blocks, want) {
		s.t.Fatalf("class %d: %v, %d; want %v", class, blocks, e, want)
	}
}

// perform performs the steps of a thread up to a position, whose changes were not checked.
func (s *session) perform(k int) {
	s.t.Helper()
	for range 1000 {
		if s.state = s.thread.State(); s.state.Pc == k {
			s.obs, s.attempts = s.thread.Obs(), s.thread.Attempts()
			return
		}
		s.thread.Step(s.m)
	}
	s.t.Fatal(s.state)
}

// P20.1, P20.2: without another thread, and without a block that was freed, a fence is one step.
func TestFenceAlone(t *testing.T) {
	m, e := cells.New(config, 1, make([]uint64, 16))
	if e != api.OK {
		t.Fatal(e)
	}
	th, e := thread.New(config, 0, 1, assemble(t, "fence; begin 1; alloc r1 0; free r1; commit; fence; fence"))
	if e != api.OK {
		t.Fatal(e)
	}
	var phases []int
	for {
		s, events, ok := th.Step(m)
		if !ok {
			break
		}
		if s.Attempt == 0 {
			if s.Thread != 0 || len(events) != 0 {
				t.Fatal(s, events)
			}
			phases = append(phases, s.Phase)
		}
	}
	if want := []int{api.PhaseFence, api.PhaseFence, api.PhaseTop, api.PhaseLink, api.PhasePush, api.PhaseFence}; !slices.Equal(phases, want) {
		t.Fatal(phases, want)
	}
	obs := th.Obs()
	want := []api.Obs{{Pc: 0, Kind: api.ObsFence}, {Pc: 2, Kind: api.ObsAlloc, Value: 4}, {Pc: 1, Kind: api.ObsOutcome, Value: api.OutCommitted},
		{Pc: 5, Kind: api.ObsFence}, {Pc: 6, Kind: api.ObsFence}}
	if !slices.Equal(obs, want) {
		t.Fatal(obs)
	}
}

// P20.1, P20.2: a fence watches the other threads in ascending order, and waits for those that are entering or too old.
func TestFenceWaits(t *testing.T) {
	s := open(t, config, "fence; nop")
	put(t, s.m, api.CellSlot, 0, 1)
	put(t, s.m, api.CellSlot, 2, clock+1)
	s.do(0, api.PhaseFence)
	put(t, s.m, api.CellClock, 0, clock+5)
	for range 3 {
		s.do(0, api.PhaseWatch)
		if s.last.Index != 0 {
			t.Fatal(s.last)
		}
	}
	put(t, s.m, api.CellSlot, 0, clock+2)
	s.do(0, api.PhaseWatch)
	for range 3 {
		s.do(0, api.PhaseWatch)
		if s.last.Index != 2 {
			t.Fatal(s.last)
		}
	}
	put(t, s.m, api.CellSlot, 2, 0)
	s.do(0, api.PhaseWatch, fenced(0))
	s.do(0, api.PhaseLocal, next)
	s.done()
}

// P20.1: the fence pushes the blocks of all commits so far, in order, and is complete with the last push. The next one has nothing to push.
func TestDrain(t *testing.T) {
	s := open(t, config, "begin 1; alloc r1 0; alloc r3 0; commit; begin 1; alloc r2 1; commit; begin 1; free r2; free r3; commit; begin 1; free r1; commit; fence; fence")
	s.perform(14)
	s.list(0)
	s.list(1)
	s.fences()
	s.pushes(2)
	s.pushes(1)
	s.pushes(0, fenced(14))
	s.list(0, 0, 1)
	s.list(1, 2)
	s.fences(fenced(15))
	s.done()
}

// P20.1: blocks that were freed after the limit stay for a later fence.
func TestDrainLimit(t *testing.T) {
	s := open(t, config, "begin 1; alloc r1 0; alloc r2 0; commit; begin 1; free r1; commit; begin 1; free r2; commit; fence; fence; fence")
	s.perform(10)
	for k, x := range []struct {
		limit  uint64
		blocks []int
	}{{clock + 1, nil}, {clock + 2, []int{0}}, {clock + 3, []int{1}}} {
		put(t, s.m, api.CellClock, 0, x.limit)
		if len(x.blocks) == 0 {
			s.fences(fenced(10 + k))
			continue
		}
		s.fences()
		s.pushes(x.blocks[0], fenced(10+k))
	}
	s.list(0, 1, 0)
	s.done()
}

// P20.1: a push whose swap fails begins again, also that of the last block.
func TestDrainAgain(t *testing.T) {
	s := open(t, config, "begin 1; alloc r1 0; alloc r2 0; commit; begin 1; free r1; free r2; commit; fence; nop")
	s.perform(8)
	s.fences()
	for _, last := range [][]change{nil, {fenced(8)}} {
		for range 2 {
			s.steps(0, api.PhaseTop, api.PhaseLink)
			put(t, s.m, api.CellHead, 0, s.m.Image().Head[0]+65536)
			s.do(0, api.PhasePush)
			if s.last.Done {
				t.Fatal(s.last)
			}
		}
		s.steps(0, api.PhaseTop, api.PhaseLink)
		s.do(0, api.PhasePush, last...)
	}
	s.list(0, 1, 0)
	s.do(0, api.PhaseLocal, next)
	s.done()
}

// P20.1: only commits free blocks: an abort and a conflict do not, and a block that was allocated and freed by one transaction waits as well.
func TestDrainCommitted(t *testing.T) {
	s := open(t, config, "begin 1; alloc r1 0; commit; begin 1; free r1; abort; commit; begin 1; free r1; tread r0 r0 16; commit; fence; begin 2; tread r2 r0 3; free r1; alloc r2 1; free r2; commit; fence")
	s.perform(11)
	s.fences(fenced(11))
	s.list(0, 1)
	s.perform(16)
	s.touch(3, 50)
	s.perform(12)
	s.perform(18)
	s.fences()
	s.pushes(0)
	s.pushes(2, fenced(18))
	s.list(0, 0, 1)
	s.list(1, 2)
	s.done()
}
