package thread

import (
	"strongtx/api"
	"strongtx/cells"
	"strongtx/epoch"
)

// await performs a step of a fence: it waits for older attempts, and then pushes the blocks that they may have read.
func (t *Thread) await(m *cells.Mem) api.Step {
	var s api.Step
	switch {
	case t.fence == nil:
		t.fence = epoch.NewFence(t.id, t.threads)
		s = t.watch(m, api.PhaseFence)
	case t.drain == nil:
		s = t.watch(m, api.PhaseWatch)
	default:
		s = t.push(m)
	}
	if t.drain != nil && t.drain.Done() {
		t.fence, t.drain = nil, nil
		t.observe(t.pc, api.ObsFence, 0)
		t.pc++
	}
	return s
}

// watch performs a step of the fence proper. When it is over, the drain begins.
func (t *Thread) watch(m *cells.Mem, phase int) api.Step {
	access := t.fence.Step(m)
	if t.fence.Done() {
		t.drain = t.limbo.Drain(t.fence.Limit())
	}
	return t.record(phase, access)
}

// push performs a step of the drain. The operations of a push differ in their kinds.
func (t *Thread) push(m *cells.Mem) api.Step {
	access := t.drain.Step(m)
	switch access.Kind {
	case api.AccLoad:
		return t.record(api.PhaseTop, access)
	case api.AccStore:
		return t.record(api.PhaseLink, access)
	}
	return t.record(api.PhasePush, access)
}
