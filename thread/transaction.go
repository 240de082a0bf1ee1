package thread

import (
	"strongtx/api"
	"strongtx/attempt"
	"strongtx/cells"
	"strongtx/program"
)

// A transaction is an execution of a begin, with all of its attempts.
type transaction struct {
	begin, commit int
	attempts      int
	saved         [api.Registers]uint64 // as they were at the begin
	seen          []api.Obs             // by the current attempt; they count if it is committed
}

// transact performs a step of an instruction whose request the attempt of a transaction executes.
func (t *Thread) transact(m *cells.Mem, i api.Instr) (api.Step, []api.Event) {
	if i.Op == api.OpBegin && t.attempt == nil {
		t.begin()
	}
	if !t.attempt.Busy() {
		// The error is impossible: the attempt is not busy, and the program is valid.
		t.request(i)
	}
	s, events := t.advance(m)
	switch {
	case t.attempt.Busy():
	case t.attempt.State() == api.AttEnded:
		t.settle()
	default:
		t.complete(i)
	}
	return s, events
}

// begin makes the next attempt of the transaction that begins here.
func (t *Thread) begin() {
	if t.current == nil {
		t.current = &transaction{begin: t.pc, commit: program.Commit(t.program, t.pc), saved: t.regs}
	}
	t.current.attempts++
	t.current.seen = nil
	t.open()
}

// open makes an attempt.
func (t *Thread) open() {
	t.attempt = attempt.New(t.config, t.id)
	t.attempts++
}

// request requests what an instruction of a transaction does.
func (t *Thread) request(i api.Instr) api.Errno {
	switch i.Op {
	case api.OpBegin:
		return t.attempt.Begin()
	case api.OpTRead:
		return t.attempt.Read(t.address(i))
	case api.OpTWrite:
		return t.attempt.Write(t.address(i), t.regs[i.B])
	case api.OpAlloc:
		return t.attempt.Alloc(i.Imm)
	case api.OpFree:
		return t.attempt.Free(t.regs[i.A])
	case api.OpAbort:
		return t.attempt.End(api.OutUser)
	}
	return t.attempt.End(api.OutCommitted)
}

// advance performs a step of the attempt.
func (t *Thread) advance(m *cells.Mem) (api.Step, []api.Event) {
	access, phase := t.attempt.Step(m)
	return t.record(phase, access), t.events(phase)
}

// events returns the events of a step of the attempt that was performed just now.
func (t *Thread) events(phase int) []api.Event {
	switch {
	case phase == api.PhaseClock:
		return []api.Event{{Thread: t.id, Kind: api.EvBegin}}
	case phase == api.PhaseDecide && t.attempt.Decided():
		reads, writes := t.attempt.Words()
		if t.attempt.Code() != api.OutCommitted {
			writes = nil
		}
		return []api.Event{{Thread: t.id, Kind: api.EvEnd, Reads: reads, Writes: writes}}
	}
	return nil
}

// complete completes an instruction after which the attempt goes on.
func (t *Thread) complete(i api.Instr) {
	v := t.attempt.Value()
	switch i.Op {
	case api.OpTRead:
		t.regs[i.A] = v
		t.current.see(t.pc, api.ObsRead, v)
	case api.OpAlloc:
		t.regs[i.A] = v
		t.current.see(t.pc, api.ObsAlloc, v)
	}
	t.pc++
}

// see notes what the current attempt observes.
func (x *transaction) see(pc, kind int, v uint64) {
	x.seen = append(x.seen, api.Obs{Pc: pc, Kind: kind, Value: v})
}

// settle goes on after the end of the attempt of a transaction.
func (t *Thread) settle() {
	ended := t.attempt
	t.attempt = nil
	code := ended.Code()
	if code == api.OutCommitted {
		t.obs = append(t.obs, t.current.seen...)
		t.limbo.Add(ended.Version(), ended.Frees())
	} else {
		t.regs = t.current.saved
	}
	if code == api.OutConflict {
		if t.current.attempts < t.program[t.current.begin].Imm {
			t.pc = t.current.begin
			return
		}
		code = api.OutRetry
	}
	t.outcome = code
	t.observe(t.current.begin, api.ObsOutcome, uint64(code))
	t.pc = t.current.commit + 1
	t.current = nil
}
