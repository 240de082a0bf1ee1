package thread_test

import (
	"math"
	"math/rand"
	"slices"
	"strings"
	"testing"

	"strongtx/api"
	"strongtx/asm"
	"strongtx/cells"
	"strongtx/thread"
)

// config has the blocks 0 at 4 and 1 at 5 (class 0), and 2 at 6 and 7 (class 1). Their state words are 16 to 18.
var config = api.Config{Words: 16, Orecs: 8, Base: 4, Count: [api.Classes]int{2, 1}, Reads: 3, Writes: 4, Allocs: 2, Frees: 2, Clock: 100}

// The threads of most tests have this number, and the clock is this one at their beginning.
const (
	id    = 1
	clock = 10
)

// create returns cells for three threads: word a is 100 + a.
func create(t *testing.T, c api.Config) *cells.Mem {
	t.Helper()
	init := make([]uint64, c.Words)
	for addr := range init {
		init[addr] = 100 + uint64(addr)
	}
	m, e := cells.New(c, 3, init)
	if e != api.OK {
		t.Fatal(e)
	}
	put(t, m, api.CellClock, 0, clock)
	return m
}

// put changes a cell, as another thread does.
func put(t *testing.T, m *cells.Mem, cell, index int, v uint64) {
	t.Helper()
	if _, e := m.Store(cell, index, v); e != api.OK {
		t.Fatal(cell, index, e)
	}
}

// assemble returns the program of a text in which semicolons stand for line feeds.
func assemble(t *testing.T, text string) []api.Instr {
	t.Helper()
	p, line, e := asm.Assemble(strings.ReplaceAll(text, ";", "\n"))
	if e != api.OK {
		t.Fatal(text, line, e)
	}
	return p
}

// operations has the operation of the step of each phase.
var operations = [...]struct{ kind, cell int }{
	api.PhaseLocal:   {},
	api.PhasePlain:   {api.AccLoad, api.CellData}, // or a store
	api.PhaseEnter:   {api.AccStore, api.CellSlot},
	api.PhaseClock:   {api.AccLoad, api.CellClock},
	api.PhaseActive:  {api.AccStore, api.CellSlot},
	api.PhaseOrec:    {api.AccLoad, api.CellOrec},
	api.PhaseData:    {api.AccLoad, api.CellData},
	api.PhaseAgain:   {api.AccLoad, api.CellOrec},
	api.PhaseHead:    {api.AccLoad, api.CellHead},
	api.PhaseNext:    {api.AccLoad, api.CellNext},
	api.PhaseTake:    {api.AccSwap, api.CellHead},
	api.PhaseLook:    {api.AccLoad, api.CellOrec},
	api.PhaseLock:    {api.AccSwap, api.CellOrec},
	api.PhaseTicket:  {api.AccAdd, api.CellTicket},
	api.PhaseTurn:    {api.AccLoad, api.CellServing},
	api.PhaseCheck:   {api.AccLoad, api.CellOrec},
	api.PhaseDecide:  {api.AccLoad, api.CellClock},
	api.PhaseWrite:   {api.AccStore, api.CellData},
	api.PhaseRelease: {api.AccStore, api.CellOrec},
	api.PhaseStamp:   {api.AccStore, api.CellClock},
	api.PhasePass:    {api.AccStore, api.CellServing},
	api.PhaseTop:     {api.AccLoad, api.CellHead},
	api.PhaseLink:    {api.AccStore, api.CellNext},
	api.PhasePush:    {api.AccSwap, api.CellHead},
	api.PhaseLeave:   {api.AccStore, api.CellSlot},
	api.PhaseFence:   {api.AccLoad, api.CellClock},
	api.PhaseWatch:   {api.AccLoad, api.CellSlot},
}

// place returns the cell of an access; nil if there is none.
func place(i *api.Image, a api.Access) *uint64 {
	var list []uint64
	switch a.Cell {
	case api.CellClock:
		return &i.Clock
	case api.CellTicket:
		return &i.Ticket
	case api.CellServing:
		return &i.Serving
	case api.CellData:
		list = i.Data
	case api.CellOrec:
		list = i.Orec
	case api.CellSlot:
		list = i.Slot
	case api.CellHead:
		list = i.Head
	case api.CellNext:
		list = i.Next
	}
	if a.Index >= len(list) {
		return nil
	}
	return &list[a.Index]
}

// checkStep checks that a step of a thread was the only operation between two images, and is of its phase.
func checkStep(t *testing.T, number int, before, after api.Image, s api.Step) {
	t.Helper()
	a := s.Access
	want := operations[s.Phase]
	if s.Phase == api.PhasePlain && a.Kind == api.AccStore {
		want.kind = api.AccStore
	}
	if s.Thread != number || want.kind != a.Kind || want.cell != a.Cell {
		t.Fatalf("%+v", s)
	}
	if a.Kind == api.AccNone {
		if a != (api.Access{}) {
			t.Fatalf("%+v", s)
		}
	} else {
		cell := place(&before, a)
		if cell == nil || *cell != a.Got || a.Done != (a.Kind != api.AccSwap || a.Put != a.Got) {
			t.Fatalf("%+v on %v", s, before)
		}
		*cell = a.Put
	}
	if !sameImage(before, after) {
		t.Fatalf("%+v: %v, want %v", s, after, before)
	}
}

func sameImage(a, b api.Image) bool {
	return slices.Equal(a.Data, b.Data) && slices.Equal(a.Orec, b.Orec) && slices.Equal(a.Slot, b.Slot) && slices.Equal(a.Head, b.Head) &&
		slices.Equal(a.Next, b.Next) && a.Clock == b.Clock && a.Ticket == b.Ticket && a.Serving == b.Serving
}

// A session checks what a thread does and shows, step by step.
type session struct {
	t        *testing.T
	m        *cells.Mem
	thread   *thread.Thread
	program  []api.Instr
	state    api.Thread
	obs      []api.Obs
	attempts int
	events   []api.Event // of the step that is under way
	last     api.Access  // of the last step
}

// open returns a session with three threads.
func open(t *testing.T, c api.Config, text string) *session {
	t.Helper()
	p := assemble(t, text)
	th, e := thread.New(c, id, 3, p)
	if e != api.OK {
		t.Fatal(text, e)
	}
	s := &session{t: t, m: create(t, c), thread: th, program: p}
	s.shows()
	return s
}

// shows checks what the methods return, several times.
func (s *session) shows() {
	s.t.Helper()
	s.state.Done = s.state.Pc == len(s.program)
	for range 2 {
		if state := s.thread.State(); state != s.state {
			s.t.Fatalf("state %v, want %v", state, s.state)
		}
		if obs := s.thread.Obs(); !slices.Equal(obs, s.obs) {
			s.t.Fatalf("observations %v, want %v", obs, s.obs)
		}
		if n := s.thread.Attempts(); n != s.attempts {
			s.t.Fatalf("%d attempts, want %d", n, s.attempts)
		}
	}
}

// A change is one of what a thread shows, or an event.
type change func(s *session)

func pc(k int) change { return func(s *session) { s.state.Pc = k } }

// next is the change of pc that most instructions make.
func next(s *session) { s.state.Pc++ }

func reg(k int, v uint64) change { return func(s *session) { s.state.Regs[k] = v } }

func outcome(code int) change { return func(s *session) { s.state.Outcome = code } }

func made(s *session) { s.attempts++ }

func sees(pc, kind int, v uint64) change {
	return func(s *session) { s.obs = append(s.obs, api.Obs{Pc: pc, Kind: kind, Value: v}) }
}

func event(kind, word int) change {
	return func(s *session) { s.events = []api.Event{{Thread: id, Kind: kind, Word: word}} }
}

// ends is the event of a decision.
func ends(reads, writes []int) change {
	return func(s *session) {
		s.events = []api.Event{{Thread: id, Kind: api.EvEnd, Reads: reads, Writes: writes}}
	}
}

// do checks a step of the attempt with this number (0: of none), and what changes with it.
func (s *session) do(attempt, phase int, changes ...change) {
	s.t.Helper()
	before := s.m.Image()
	step, events, ok := s.thread.Step(s.m)
	if !ok || step.Phase != phase || step.Attempt != attempt {
		s.t.Fatalf("%v, %v; want phase %d, attempt %d", step, ok, phase, attempt)
	}
	checkStep(s.t, id, before, s.m.Image(), step)
	s.events = nil
	for _, change := range changes {
		change(s)
	}
	if !sameEvents(events, s.events) {
		s.t.Fatalf("events %v, want %v", events, s.events)
	}
	s.last = step.Access
	s.shows()
}

// sameEvents compares two lists of at most one event. An empty list is the same as none.
func sameEvents(a, b []api.Event) bool {
	if len(a) != len(b) || len(a) > 1 {
		return false
	}
	if len(a) == 0 {
		return true
	}
	x, y := a[0], b[0]
	return x.At == y.At && x.Thread == y.Thread && x.Kind == y.Kind && x.Word == y.Word && slices.Equal(x.Reads, y.Reads) && slices.Equal(x.Writes, y.Writes)
}

// steps checks steps of an attempt with which nothing changes.
func (s *session) steps(attempt int, phases ...int) {
	s.t.Helper()
	for _, phase := range phases {
		s.do(attempt, phase)
	}
}

// done checks that the thread is done, and makes no step.
func (s *session) done() {
	s.t.Helper()
	if !s.state.Done {
		s.t.Fatal("not done", s.state)
	}
	before := s.m.Image()
	for range 3 {
		if step, events, ok := s.thread.Step(s.m); ok || step != (api.Step{}) || len(events) != 0 {
			s.t.Fatal(step, events, ok)
		}
		s.shows()
	}
	if after := s.m.Image(); !sameImage(after, before) {
		s.t.Fatalf("%v, before %v", after, before)
	}
}

// begin checks the begin of an attempt, which is complete with its last step.
func (s *session) begin(attempt int, last ...change) {
	s.t.Helper()
	s.do(attempt, api.PhaseEnter, made)
	s.do(attempt, api.PhaseClock, event(api.EvBegin, 0))
	s.do(attempt, api.PhaseActive, last...)
}

// shared checks the steps of a shared read.
func (s *session) shared(attempt int, last ...change) {
	s.t.Helper()
	s.steps(attempt, api.PhaseOrec, api.PhaseData)
	s.do(attempt, api.PhaseAgain, last...)
}

// pops checks the steps of a pop.
func (s *session) pops(attempt int, last ...change) {
	s.t.Helper()
	s.steps(attempt, api.PhaseHead, api.PhaseNext)
	s.do(attempt, api.PhaseTake, last...)
}

// locks checks the locking of some ownership records that are free.
func (s *session) locks(attempt, orecs int) {
	s.t.Helper()
	for range orecs {
		s.steps(attempt, api.PhaseLook, api.PhaseLock)
	}
}

// turns checks a turn that comes at once, and the validation of some ownership records.
func (s *session) turns(attempt, orecs int) {
	s.t.Helper()
	s.steps(attempt, api.PhaseTicket, api.PhaseTurn)
	s.steps(attempt, slices.Repeat([]int{api.PhaseCheck}, orecs)...)
}

// commit checks the commit of a log with all steps but the last one.
func (s *session) commit(attempt, checks, words, orecs int, reads, writes []int) {
	s.t.Helper()
	s.do(attempt, api.PhaseLocal)
	s.locks(attempt, orecs)
	s.turns(attempt, checks)
	s.do(attempt, api.PhaseDecide, ends(reads, writes))
	s.steps(attempt, slices.Repeat([]int{api.PhaseWrite}, words)...)
	s.steps(attempt, slices.Repeat([]int{api.PhaseRelease}, orecs)...)
	s.steps(attempt, api.PhaseStamp, api.PhasePass)
}

// P20.1: the errors, in their order.
func TestNewErrors(t *testing.T) {
	broken := func(change func(c *api.Config)) api.Config {
		c := config
		change(&c)
		return c
	}
	good := assemble(t, "nop")
	bad := []api.Instr{{Op: api.OpCommit}}
	for k, x := range []struct {
		c           api.Config
		id, threads int
		p           []api.Instr
		want        api.Errno
	}{
		{api.Config{}, 0, 0, bad, api.ErrWords},
		{broken(func(c *api.Config) { c.Orecs = 65; c.Base = -1 }), 0, 1, good, api.ErrWords},
		{broken(func(c *api.Config) { c.Count[3] = 2; c.Reads = 0 }), 0, 0, good, api.ErrHeap},
		{broken(func(c *api.Config) { c.Writes = 33; c.Clock = -1 }), -1, 1, good, api.ErrLogs},
		{broken(func(c *api.Config) { c.Clock = api.MaxVersion + 1 }), 0, 17, bad, api.ErrClock},
		{config, 0, 0, bad, api.ErrThreads},
		{config, 0, -1, good, api.ErrThreads},
		{config, 0, 17, good, api.ErrThreads},
		{config, 0, math.MaxInt, good, api.ErrThreads},
		{config, math.MinInt, math.MinInt, good, api.ErrThreads},
		{config, -1, 3, good, api.ErrThreads},
		{config, 3, 3, bad, api.ErrThreads},
		{config, math.MaxInt, 16, good, api.ErrThreads},
		{config, math.MinInt, 16, good, api.ErrThreads},
		{config, 0, 1, make([]api.Instr, 65), api.ErrLen},
		{config, 0, 1, []api.Instr{{Op: api.Ops}}, api.ErrOp},
		{config, 0, 1, []api.Instr{{Op: api.OpNop, Imm: 1}}, api.ErrOperand},
		{config, 2, 3, bad, api.ErrNest},
		{config, 0, 1, []api.Instr{{Op: api.OpAbort}}, api.ErrPlace},
		{config, 0, 1, []api.Instr{{Op: api.OpNop}, {Op: api.OpJump, Imm: 1}}, api.ErrTarget},
		{config, 15, 16, []api.Instr{{Op: api.OpBegin, Imm: 1}}, api.ErrOpen},
	} {
		if th, e := thread.New(x.c, x.id, x.threads, x.p); th != nil || e != x.want {
			t.Errorf("%d: %v, %d; want %d", k, th, e, x.want)
		}
	}
	for _, x := range [][2]int{{0, 1}, {0, 16}, {15, 16}, {2, 3}} {
		th, e := thread.New(config, x[0], x[1], good)
		if th == nil || e != api.OK {
			t.Errorf("%v: %v, %d", x, th, e)
		}
	}
}

// P20.1: the steps of a thread have its number.
func TestNumber(t *testing.T) {
	for number := range 16 {
		th, e := thread.New(config, number, 16, assemble(t, "nop; pread r1 r0 0; begin 1; commit"))
		if e != api.OK {
			t.Fatal(e)
		}
		m, e := cells.New(config, 16, make([]uint64, 16))
		if e != api.OK {
			t.Fatal(e)
		}
		for !th.State().Done {
			before := m.Image()
			s, events, ok := th.Step(m)
			if !ok || len(events) == 1 && events[0].Thread != number {
				t.Fatal(s, events, ok)
			}
			checkStep(t, number, before, m.Image(), s)
			if s.Access.Cell == api.CellSlot && s.Access.Index != number {
				t.Fatal(s)
			}
		}
	}
}

// P20.1: a thread without instructions is done at once.
func TestNoInstructions(t *testing.T) {
	open(t, config, "").done()
	th, e := thread.New(config, 0, 1, []api.Instr{})
	if e != api.OK || !th.State().Done {
		t.Fatal(e)
	}
}

// P20.2: the methods of a nil Thread return zero values.
func TestNil(t *testing.T) {
	var th *thread.Thread
	m := create(t, config)
	if s, events, ok := th.Step(m); ok || s != (api.Step{}) || len(events) != 0 {
		t.Error(s, events, ok)
	}
	if s, events, ok := th.Step(nil); ok || s != (api.Step{}) || len(events) != 0 {
		t.Error(s, events, ok)
	}
	if state := th.State(); state != (api.Thread{}) {
		t.Error(state)
	}
	if len(th.Obs()) != 0 || th.Attempts() != 0 {
		t.Error(th.Obs(), th.Attempts())
	}
}

// P20.1, P20.2: the chapter's example.
func TestExample(t *testing.T) {
	c := api.Config{Words: 1, Orecs: 1, Reads: 1, Writes: 1, Clock: 1}
	m, e := cells.New(c, 1, []uint64{5})
	if e != api.OK {
		t.Fatal(e)
	}
	th, e := thread.New(c, 0, 1, assemble(t, "begin 2; twrite r0 r1 0; commit"))
	if e != api.OK {
		t.Fatal(e)
	}
	for k, phase := range []int{api.PhaseEnter, api.PhaseClock, api.PhaseActive, api.PhaseLocal, api.PhaseLocal, api.PhaseLook, api.PhaseLock,
		api.PhaseTicket, api.PhaseTurn, api.PhaseDecide, api.PhaseWrite, api.PhaseRelease, api.PhaseStamp, api.PhasePass, api.PhaseLeave} {
		if s, _, ok := th.Step(m); !ok || s.Phase != phase || s.Attempt != 1 {
			t.Fatal(k, s, ok)
		}
	}
	if s, _, ok := th.Step(m); ok {
		t.Fatal(s)
	}
	if state := th.State(); state != (api.Thread{Pc: 3, Outcome: api.OutCommitted, Done: true}) {
		t.Fatal(state)
	}
	if obs := th.Obs(); !slices.Equal(obs, []api.Obs{{Pc: 0, Kind: api.ObsOutcome, Value: api.OutCommitted}}) {
		t.Fatal(obs)
	}
	if i := m.Image(); i.Data[0] != 0 || i.Clock != 1 {
		t.Fatal(i)
	}
}

// R4: a thread keeps nothing of its arguments, and its results are new memory.
func TestApart(t *testing.T) {
	p := assemble(t, "begin 1; tread r1 r0 3; twrite r0 r1 2; commit; pread r2 r0 2; nop")
	kept := slices.Clone(p)
	th, e := thread.New(config, id, 3, p)
	if e != api.OK || !slices.Equal(p, kept) {
		t.Fatal(e, p)
	}
	clear(p)
	m := create(t, config)
	decided := false
	for !th.State().Done {
		_, events, _ := th.Step(m)
		for _, event := range events {
			if event.Kind == api.EvEnd {
				decided = slices.Equal(event.Reads, []int{3}) && slices.Equal(event.Writes, []int{2})
			}
			for _, l := range [][]int{event.Reads, event.Writes} {
				for k := range l {
					l[k] = 99
				}
				_ = append(l, 98)
			}
		}
		obs := th.Obs()
		clear(obs)
		_ = append(obs, api.Obs{Pc: 77})
	}
	want := []api.Obs{{Pc: 1, Kind: api.ObsRead, Value: 103}, {Pc: 0, Kind: api.ObsOutcome, Value: api.OutCommitted}, {Pc: 4, Kind: api.ObsPlain, Value: 103}}
	if obs := th.Obs(); !slices.Equal(obs, want) || !decided {
		t.Fatal(obs, decided)
	}
	if i := m.Image(); i.Data[2] != 103 {
		t.Fatal(i)
	}
}

// R1: no step panics, on no cells and on those of another machine either.
func TestAnyCells(t *testing.T) {
	r := rand.New(rand.NewSource(201))
	for range 3000 {
		c := config
		c.Strong = r.Intn(2) == 0
		th, e := thread.New(c, r.Intn(16), 16, randomProgram(r, anywhere(c.Words)))
		if e != api.OK {
			t.Fatal(e)
		}
		var m *cells.Mem
		if r.Intn(4) > 0 {
			other := api.Config{Words: 1 + r.Intn(64), Orecs: 1 + r.Intn(64), Reads: 1, Writes: 1}
			other.Count[0] = r.Intn(other.Words + 1)
			if m, e = cells.New(other, 1+r.Intn(16), make([]uint64, other.Words)); e != api.OK {
				t.Fatal(e)
			}
		}
		for range 200 {
			th.Step(m)
			th.State()
			if r.Intn(8) == 0 {
				m.Store(1+r.Intn(8), r.Intn(8), r.Uint64()>>r.Intn(64))
			}
		}
	}
}
