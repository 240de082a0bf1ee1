package thread_test

import (
	"math"
	"strconv"
	"testing"

	"strongtx/api"
)

// P20.1: the instructions that use and set registers alone take one local step.
func TestLocal(t *testing.T) {
	s := open(t, config, "nop; const r1 -5; const r2 7; move r3 r1; add r4 r1 r2; sub r2 r2 r3; lt r0 r1 r2; move r1 r1; nop; const r7 9223372036854775807; const r7 -9223372036854775808; toint r6 r7 r0; outcome r5")
	minus5 := uint64(math.MaxUint64 - 4)
	for _, change := range []change{
		reg(0, 0), reg(1, minus5), reg(2, 7), reg(3, minus5), reg(4, 2), reg(2, 12), reg(0, 1), reg(1, minus5), reg(0, 1),
		reg(7, math.MaxInt64), reg(7, 1<<63), reg(6, 0), reg(5, api.OutNone),
	} {
		s.do(0, api.PhaseLocal, change, next)
	}
	s.done()
}

// P20.1: an arithmetic function gets the registers B and C, in this order, also if they are A.
func TestArith(t *testing.T) {
	s := open(t, config, "const r1 9; const r2 5; sub r1 r1 r2; sub r1 r2 r1; shl r3 r2 r1; fromint r4 r2 r3; fdiv r0 r4 r4")
	for _, change := range []change{reg(1, 9), reg(2, 5), reg(1, 4), reg(1, 1), reg(3, 10), reg(4, math.Float64bits(5)), reg(0, math.Float64bits(1))} {
		s.do(0, api.PhaseLocal, change, next)
	}
	s.done()
}

// P20.1: jumps, taken and not, also beyond the last instruction.
func TestJumps(t *testing.T) {
	for _, x := range []struct {
		text string
		path []int // the positions behind each step
	}{
		{"jump 0; nop", []int{1, 2}},
		{"jump 1; nop; nop", []int{2, 3}},
		{"jump 2; nop; nop", []int{3}},
		{"zero r1 1; nop; zero r1 0; nop", []int{2, 3, 4}},
		{"nonzero r1 1; nop; nop", []int{1, 2, 3}},
		{"zero r1 2; nop; nop", []int{3}},
	} {
		s := open(t, config, x.text)
		for _, k := range x.path {
			s.do(0, api.PhaseLocal, pc(k))
		}
		s.done()
	}
	for _, v := range []int{1, -1, math.MinInt, 1 << 32} {
		s := open(t, config, "const r1 "+strconv.Itoa(v)+"; zero r0 1; nop; zero r1 1; nop; nonzero r1 1; nop; nonzero r0 1; nop")
		s.do(0, api.PhaseLocal, reg(1, uint64(v)), next)
		for _, k := range []int{3, 4, 5, 7, 8, 9} {
			s.do(0, api.PhaseLocal, pc(k))
		}
		s.done()
	}
}

// P20.1: in a transaction, local instructions are steps of the attempt; their registers last if it is committed.
func TestLocalInside(t *testing.T) {
	s := open(t, config, "const r1 3; begin 1; nop; add r2 r1 r1; zero r2 2; nonzero r2 1; const r1 9; move r4 r2; jump 1; nop; commit; nop")
	s.do(0, api.PhaseLocal, reg(1, 3), next)
	s.begin(1, next)
	s.do(1, api.PhaseLocal, next)
	s.do(1, api.PhaseLocal, reg(2, 6), next)
	s.do(1, api.PhaseLocal, next)
	s.do(1, api.PhaseLocal, pc(7))
	s.do(1, api.PhaseLocal, reg(4, 6), next)
	s.do(1, api.PhaseLocal, pc(10))
	s.do(1, api.PhaseLocal)
	s.turns(1, 0)
	s.do(1, api.PhaseDecide, ends(nil, nil))
	s.do(1, api.PhasePass)
	s.do(1, api.PhaseLeave, outcome(api.OutCommitted), sees(1, api.ObsOutcome, api.OutCommitted), next)
	s.do(0, api.PhaseLocal, next)
	s.done()
}

// P20.1: outcome sets its register to the outcome of the last transaction.
func TestOutcome(t *testing.T) {
	s := open(t, config, "const r1 77; outcome r1; begin 1; abort; commit; outcome r2; outcome r3; begin 1; commit; outcome r2")
	s.do(0, api.PhaseLocal, reg(1, 77), next)
	s.do(0, api.PhaseLocal, reg(1, api.OutNone), next)
	s.begin(1, next)
	s.do(1, api.PhaseLocal)
	s.turns(1, 0)
	s.do(1, api.PhaseDecide, ends(nil, nil))
	s.do(1, api.PhasePass)
	s.do(1, api.PhaseLeave, outcome(api.OutUser), sees(2, api.ObsOutcome, api.OutUser), pc(5))
	s.do(0, api.PhaseLocal, reg(2, api.OutUser), next)
	s.do(0, api.PhaseLocal, reg(3, api.OutUser), next)
	s.begin(2, next)
	s.do(2, api.PhaseLocal)
	s.turns(2, 0)
	s.do(2, api.PhaseDecide, ends(nil, nil))
	s.do(2, api.PhasePass)
	s.do(2, api.PhaseLeave, outcome(api.OutCommitted), sees(7, api.ObsOutcome, api.OutCommitted), pc(9))
	s.do(0, api.PhaseLocal, reg(2, api.OutCommitted), next)
	s.done()
}
