package attempt

import (
	"slices"

	"strongtx/api"
	"strongtx/cells"
	"strongtx/epoch"
	"strongtx/freelist"
	"strongtx/layout"
	"strongtx/locker"
	"strongtx/turn"
	"strongtx/validator"
	"strongtx/word"
	"strongtx/writer"
)

// end begins to end the attempt with a code. Each of the following functions puts a machine to work and names the next function.
// Attempts that store nothing take a turn, too: that what they have read is valid at their turn gives them their place among the others.
func (a *Attempt) end(code int) {
	a.code = code
	if a.storing() {
		a.locked = a.orecs()
	}
	a.lock = locker.NewLock(a.thread, a.locked)
	a.start(locking, a.lock, a.takeTurn)
}

// storing reports whether the attempt is to be committed with words to write back.
func (a *Attempt) storing() bool {
	return a.code == api.OutCommitted && a.log.Len() > 0
}

// orecs returns the ownership records of the log.
func (a *Attempt) orecs() []int {
	var orecs []int
	for _, addr := range a.log.Addrs() {
		orecs = append(orecs, layout.Orec(a.config, addr))
	}
	return locker.Sorted(orecs)
}

func (a *Attempt) takeTurn() {
	a.turn = turn.New()
	a.start(turning, a.turn, a.validate)
}

func (a *Attempt) validate() {
	check := validator.New(a.set.List(), a.Snapshot())
	a.start(checking, check, func() {
		if check.Failed() {
			a.fail(api.OutConflict)
			return
		}
		a.loadClock()
	})
}

func (a *Attempt) loadClock() {
	clock := 0
	a.once(deciding, func(m *cells.Mem) api.Access {
		access := load(m, api.CellClock)
		clock = int(access.Got)
		return access
	}, func() { a.decide(clock) })
}

// decide goes on with the clock of the decision.
func (a *Attempt) decide(clock int) {
	if !a.storing() {
		// Nothing is locked, and nothing to be released.
		a.decided = true
		a.pass()
		return
	}
	if clock >= a.config.Clock {
		a.fail(api.OutClock)
		return
	}
	a.decided = true
	a.version = clock + 1
	a.writeBack()
}

// fail goes on with an attempt that is not decided: whatever it has locked becomes as it was.
func (a *Attempt) fail(code int) {
	a.code = code
	a.release(a.lock.Old(), a.pass)
}

func (a *Attempt) writeBack() {
	a.start(writing, writer.New(a.log.Addrs(), a.log.Values()), a.publish)
}

// publish releases the ownership records with the new version.
// The clock follows: whoever loads it then finds all of this version in place.
func (a *Attempt) publish() {
	// The error is impossible: the version is at most the greatest one of the configuration.
	free, _ := word.Free(a.version)
	a.release(slices.Repeat([]uint64{free}, len(a.locked)), a.stamp)
}

func (a *Attempt) release(words []uint64, then func()) {
	a.start(releasing, locker.NewRelease(a.locked, words), then)
}

func (a *Attempt) stamp() {
	a.once(stamping, func(m *cells.Mem) api.Access {
		return store(m, api.CellClock, uint64(a.version))
	}, a.pass)
}

func (a *Attempt) pass() {
	a.once(passing, func(m *cells.Mem) api.Access {
		return turn.Pass(m, a.turn.Ticket())
	}, a.clean)
}

// undo gives up an attempt that has not begun to end: it has neither locks nor a turn.
func (a *Attempt) undo(code int) {
	a.code = code
	a.clean()
}

// clean puts back what only a commit keeps.
func (a *Attempt) clean() {
	if a.code == api.OutCommitted {
		a.leave()
		return
	}
	a.putBack(a.allocs)
}

// putBack pushes blocks, and leaves when none is left.
func (a *Attempt) putBack(blocks []int) {
	if len(blocks) == 0 {
		a.leave()
		return
	}
	push := freelist.NewPush(layout.Class(a.config, blocks[0]), blocks[0])
	a.start(pushing, push, func() { a.putBack(blocks[1:]) })
}

func (a *Attempt) leave() {
	a.once(leaving, func(m *cells.Mem) api.Access {
		return epoch.Leave(m, a.thread)
	}, func() {
		a.state = api.AttEnded
		a.rest()
	})
}

// load reads a cell of which there is only one. The error is impossible: every machine has it.
func load(m *cells.Mem, cell int) api.Access {
	a, _ := m.Load(cell, 0)
	return a
}

// store writes a cell of which there is only one.
func store(m *cells.Mem, cell int, v uint64) api.Access {
	a, _ := m.Store(cell, 0, v)
	return a
}
