package thread

import (
	"strongtx/alu"
	"strongtx/api"
)

// compute performs an instruction that uses and sets registers alone.
func (t *Thread) compute(i api.Instr) api.Step {
	switch i.Op {
	case api.OpConst:
		t.regs[i.A] = uint64(i.Imm)
	case api.OpMove:
		t.regs[i.A] = t.regs[i.B]
	case api.OpArith:
		// The error is impossible: the program is valid, so there is such a function.
		t.regs[i.A], _ = alu.Apply(i.Imm, t.regs[i.B], t.regs[i.C])
	case api.OpOutcome:
		t.regs[i.A] = uint64(t.outcome)
	}
	if t.jumps(i) {
		t.pc += i.Imm
	}
	t.pc++
	return t.record(api.PhaseLocal, api.Access{})
}

// jumps reports whether an instruction is a jump that is taken.
func (t *Thread) jumps(i api.Instr) bool {
	switch i.Op {
	case api.OpJump:
		return true
	case api.OpZero:
		return t.regs[i.A] == 0
	case api.OpNonzero:
		return t.regs[i.A] != 0
	}
	return false
}
