package attempt

import (
	"strongtx/api"
	"strongtx/cells"
)

// The states of a part: what it does with its next step.
const (
	idle = iota
	local
	entering
	reading
	popping
	locking
	turning
	checking
	deciding
	writing
	releasing
	stamping
	passing
	pushing
	leaving
)

// phases has the phases of the steps in each state.
var phases = [...][]int{
	idle:      {api.PhaseLocal},
	local:     {api.PhaseLocal},
	entering:  {api.PhaseEnter, api.PhaseClock, api.PhaseActive},
	reading:   {api.PhaseOrec, api.PhaseData, api.PhaseAgain},
	popping:   {api.PhaseHead, api.PhaseNext, api.PhaseTake},
	locking:   {api.PhaseLook, api.PhaseLock},
	turning:   {api.PhaseTurn, api.PhaseTicket},
	checking:  {api.PhaseCheck},
	deciding:  {api.PhaseDecide},
	writing:   {api.PhaseWrite},
	releasing: {api.PhaseRelease},
	stamping:  {api.PhaseStamp},
	passing:   {api.PhasePass},
	pushing:   {api.PhaseTop, api.PhaseLink, api.PhasePush},
	leaving:   {api.PhaseLeave},
}

// machine is what the machines of the lower layers have in common.
type machine interface {
	Step(m *cells.Mem) api.Access
	Done() bool
}

// part is the machine that is at work. Its zero value is idle.
type part struct {
	doing int
	now   machine
	steps int    // those that the machine has performed
	then  func() // what follows when the machine has finished
}

// start puts a machine to work. One that has finished at once takes no step.
func (p *part) start(doing int, now machine, then func()) {
	*p = part{doing: doing, now: now, then: then}
	if now.Done() {
		then()
	}
}

// step performs a step of the machine, and begins with what follows if it was the last one.
func (p *part) step(m *cells.Mem) (api.Access, int) {
	a := p.now.Step(m)
	phase := p.phase(a)
	p.steps++
	if p.now.Done() {
		p.then()
	}
	return a, phase
}

// phase returns the phase of the step that made this access.
func (p *part) phase(a api.Access) int {
	row := phases[p.doing]
	switch {
	case p.doing != locking && p.doing != turning:
		return row[p.steps%len(row)]
	// These two load again as long as they have to wait: the number of steps does not tell what a step does.
	case a.Kind == api.AccLoad:
		return row[0]
	}
	return row[1]
}

// rest completes an operation.
func (p *part) rest() {
	*p = part{}
}

// single is a machine with one operation.
type single struct {
	operation func(m *cells.Mem) api.Access // nil when it has finished
}

// Step performs the operation.
func (s *single) Step(m *cells.Mem) api.Access {
	operation := s.operation
	s.operation = nil
	return operation(m)
}

// Done reports whether the machine has finished.
func (s *single) Done() bool {
	return s.operation == nil
}

// once puts a single operation to work.
func (p *part) once(doing int, operation func(m *cells.Mem) api.Access, then func()) {
	p.start(doing, &single{operation}, then)
}

// aside puts a step without an access to work.
func (p *part) aside(then func()) {
	p.once(local, func(*cells.Mem) api.Access { return api.Access{} }, then)
}
