package thread

import (
	"strongtx/api"
	"strongtx/cells"
)

// access performs a step of a pread or pwrite.
func (t *Thread) access(m *cells.Mem, i api.Instr) (api.Step, []api.Event) {
	addr := t.address(i)
	switch {
	case addr >= uint64(t.config.Words):
		return t.miss(i), nil
	case t.config.Strong:
		return t.isolate(m, i, addr)
	}
	return t.touch(m, i, int(addr))
}

// miss performs an access beyond the words.
func (t *Thread) miss(i api.Instr) api.Step {
	if i.Op == api.OpPRead {
		t.regs[i.A] = 0
	}
	t.fault(api.OutAddress)
	return t.record(api.PhaseLocal, api.Access{})
}

// touch performs an access in weak mode: one operation on the word.
func (t *Thread) touch(m *cells.Mem, i api.Instr, addr int) (api.Step, []api.Event) {
	event := api.Event{Thread: t.id, Word: addr}
	var access api.Access
	// The errors are impossible with the cells of the configuration; a word that other cells do not have is read as 0.
	if i.Op == api.OpPRead {
		event.Kind = api.EvRead
		access, _ = m.Load(api.CellData, addr)
	} else {
		event.Kind = api.EvWrite
		access, _ = m.Store(api.CellData, addr, t.regs[i.B])
	}
	t.accessed(i, access.Got)
	return t.record(api.PhasePlain, access), []api.Event{event}
}

// isolate performs a step of an access in strong mode, which has an attempt of its own.
func (t *Thread) isolate(m *cells.Mem, i api.Instr, addr uint64) (api.Step, []api.Event) {
	if t.attempt == nil {
		t.open()
		t.requests = t.single(i, addr)
	}
	if !t.attempt.Busy() {
		// The error is impossible: no request comes before its time.
		t.requests[0]()
		t.requests = t.requests[1:]
	}
	s, events := t.advance(m)
	if t.attempt.State() == api.AttEnded {
		t.finish(i)
	}
	return s, events
}

// single returns the requests of an attempt that makes one access.
func (t *Thread) single(i api.Instr, addr uint64) []func() api.Errno {
	a := t.attempt
	access := func() api.Errno { return a.Read(addr) }
	if i.Op == api.OpPWrite {
		access = func() api.Errno { return a.Write(addr, t.regs[i.B]) }
	}
	return []func() api.Errno{a.Begin, access, func() api.Errno { return a.End(api.OutCommitted) }}
}

// finish goes on after the end of the attempt of an access. After any other end than these two, the next step makes another attempt.
func (t *Thread) finish(i api.Instr) {
	ended := t.attempt
	t.attempt = nil
	switch ended.Code() {
	case api.OutCommitted:
		t.accessed(i, ended.Value())
	case api.OutClock:
		t.fault(api.OutClock)
	}
}

// accessed completes an access; v is the value that a pread has read.
func (t *Thread) accessed(i api.Instr, v uint64) {
	if i.Op == api.OpPRead {
		t.observe(t.pc, api.ObsPlain, v)
		t.regs[i.A] = v
	} else {
		t.observe(t.pc, api.ObsStore, t.regs[i.B])
	}
	t.pc++
}

// fault completes an access that has no effect.
func (t *Thread) fault(code int) {
	t.observe(t.pc, api.ObsFault, uint64(code))
	t.pc++
}
