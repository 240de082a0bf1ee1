package attempt_test

import (
	"math"
	"math/rand"
	"reflect"
	"slices"
	"testing"

	"strongtx/api"
	"strongtx/attempt"
	"strongtx/cells"
	"strongtx/layout"
	"strongtx/word"
)

// config has the blocks 0 at 4 and 1 at 5 (class 0), 2 at 6 and 7 (class 1), and 3 at 8 to 11 (class 2). Their state words are 16 to 19.
var config = api.Config{Words: 16, Orecs: 7, Base: 4, Count: [api.Classes]int{2, 1, 1}, Reads: 3, Writes: 4, Allocs: 2, Frees: 2, Clock: 100}

// The attempts of most tests are of this thread, have this snapshot, and get this ticket.
const (
	thread = 1
	rv     = 10
	ticket = 40
)

// create returns cells for three threads: word a is 100 + a, ownership record o is free with the version o modulo 8.
func create(t *testing.T, c api.Config) *cells.Mem {
	t.Helper()
	init := make([]uint64, c.Words)
	for addr := range init {
		init[addr] = 100 + uint64(addr)
	}
	m, e := cells.New(c, 3, init)
	if e != api.OK {
		t.Fatal(e)
	}
	for o := range c.Orecs {
		put(t, m, api.CellOrec, o, free(t, o%8))
	}
	put(t, m, api.CellClock, 0, rv)
	put(t, m, api.CellTicket, 0, ticket)
	put(t, m, api.CellServing, 0, ticket)
	return m
}

// put changes a cell, as another thread does.
func put(t *testing.T, m *cells.Mem, cell, index int, v uint64) {
	t.Helper()
	if _, e := m.Store(cell, index, v); e != api.OK {
		t.Fatal(cell, index, e)
	}
}

func free(t *testing.T, version int) uint64 {
	t.Helper()
	o, e := word.Free(version)
	if e != api.OK {
		t.Fatal(version, e)
	}
	return o
}

func held(t *testing.T, version, thread int) uint64 {
	t.Helper()
	o, e := word.Held(version, thread)
	if e != api.OK {
		t.Fatal(version, thread, e)
	}
	return o
}

func head(t *testing.T, tag, top int) uint64 {
	t.Helper()
	h, e := word.Head(tag, top)
	if e != api.OK {
		t.Fatal(tag, top, e)
	}
	return h
}

// A step is what a step should do. Put counts for all but loads and swaps that are not done; the value before is that of the cell.
type step struct {
	phase, kind, cell, index int
	put                      uint64
	missed                   bool
}

// local is a step without an access.
var local = step{phase: api.PhaseLocal}

func load(phase, cell, index int) step {
	return step{phase: phase, kind: api.AccLoad, cell: cell, index: index}
}

func store(phase, cell, index int, put uint64) step {
	return step{phase: phase, kind: api.AccStore, cell: cell, index: index, put: put}
}

func swap(phase, cell, index int, put uint64) step {
	return step{phase: phase, kind: api.AccSwap, cell: cell, index: index, put: put}
}

// miss is a swap that is not done.
func miss(phase, cell, index int) step {
	return step{phase: phase, kind: api.AccSwap, cell: cell, index: index, missed: true}
}

// values returns the cells of a kind.
func values(i *api.Image, cell int) []uint64 {
	switch cell {
	case api.CellData:
		return i.Data
	case api.CellOrec:
		return i.Orec
	case api.CellClock:
		return []uint64{i.Clock}
	case api.CellTicket:
		return []uint64{i.Ticket}
	case api.CellServing:
		return []uint64{i.Serving}
	case api.CellSlot:
		return i.Slot
	case api.CellHead:
		return i.Head
	}
	return i.Next
}

// access returns the access of a step on cells with this image.
func (s step) access(i *api.Image) api.Access {
	if s.kind == api.AccNone {
		return api.Access{}
	}
	got := values(i, s.cell)[s.index]
	a := api.Access{Kind: s.kind, Cell: s.cell, Index: s.index, Got: got, Put: s.put, Done: !s.missed}
	if s.kind == api.AccLoad || s.missed {
		a.Put = got
	}
	return a
}

// A view is what the methods of an attempt return.
type view struct {
	Busy                         bool
	State, Code                  int
	Value                        uint64
	Snapshot                     int
	Decided                      bool
	Version                      int
	Reads, Writes, Allocs, Frees []int
}

// fresh is the view of a new attempt.
var fresh = view{State: api.AttFresh, Code: api.OutNone, Snapshot: -1, Version: -1}

func look(a *attempt.Attempt) view {
	reads, writes := a.Words()
	return view{a.Busy(), a.State(), a.Code(), a.Value(), a.Snapshot(), a.Decided(), a.Version(),
		list(reads), list(writes), list(a.Allocs()), list(a.Frees())}
}

// list makes the same of nil and of the empty list.
func list(l []int) []int {
	if len(l) == 0 {
		return nil
	}
	return l
}

// The changes of a view.
type change func(v *view)

func done(v *view) { v.Busy = false }

func ended(v *view) {
	v.Busy = false
	v.State = api.AttEnded
}

func code(c int) change { return func(v *view) { v.Code = c } }

func value(x uint64) change { return func(v *view) { v.Value = x } }

func decided(version int) change {
	return func(v *view) {
		v.Decided = true
		v.Version = version
	}
}

func reads(addr int) change { return func(v *view) { v.Reads = append(v.Reads, addr) } }

func writes(addrs ...int) change { return func(v *view) { v.Writes = append(v.Writes, addrs...) } }

func allocs(block int) change { return func(v *view) { v.Allocs = append(v.Allocs, block) } }

func frees(block int) change { return func(v *view) { v.Frees = append(v.Frees, block) } }

// A session checks what an attempt does and shows, step by step.
type session struct {
	t *testing.T
	m *cells.Mem
	a *attempt.Attempt
	c api.Config
	v view
}

func open(t *testing.T, c api.Config) *session {
	t.Helper()
	return &session{t: t, m: create(t, c), a: attempt.New(c, thread), c: c, v: fresh}
}

// begun returns a session of an attempt that has begun.
func begun(t *testing.T, c api.Config) *session {
	t.Helper()
	s := open(t, c)
	s.begin()
	return s
}

// shows checks the view of the attempt.
func (s *session) shows() {
	s.t.Helper()
	if v := look(s.a); !reflect.DeepEqual(v, s.v) {
		s.t.Fatalf("%+v, want %+v", v, s.v)
	}
}

// refuses checks that a request returns an error and has no effect.
func (s *session) refuses(want api.Errno, requests ...func() api.Errno) {
	s.t.Helper()
	for k, request := range requests {
		if e := request(); e != want {
			s.t.Fatalf("request %d: error %d, want %d", k, e, want)
		}
		s.shows()
	}
}

// requests returns all requests, also those whose arguments are out of range.
func (s *session) requests() []func() api.Errno {
	list := []func() api.Errno{s.a.Begin}
	for _, addr := range []uint64{0, 4, 16, math.MaxUint64} {
		list = append(list,
			func() api.Errno { return s.a.Read(addr) },
			func() api.Errno { return s.a.Write(addr, 5) },
			func() api.Errno { return s.a.Free(addr) })
	}
	for _, n := range []int{0, 1, 2, 3, 4, -1, math.MinInt, math.MaxInt} {
		list = append(list,
			func() api.Errno { return s.a.Alloc(n) },
			func() api.Errno { return s.a.End(n) })
	}
	return list
}

// idle checks that the steps of an attempt that is not busy do nothing.
func (s *session) idle() {
	s.t.Helper()
	before := s.m.Image()
	for range 2 {
		if a, phase := s.a.Step(s.m); a != (api.Access{}) || phase != api.PhaseLocal {
			s.t.Fatalf("%v in phase %d of an attempt that is not busy", a, phase)
		}
	}
	if after := s.m.Image(); !reflect.DeepEqual(after, before) {
		s.t.Fatalf("%v, before %v", after, before)
	}
	s.shows()
}

// ask checks that a request is accepted, without an operation on the cells.
func (s *session) ask(request func() api.Errno) {
	s.t.Helper()
	s.idle()
	before := s.m.Image()
	if e := request(); e != api.OK {
		s.t.Fatal("error", e)
	}
	s.v.Busy = true
	s.v.State = api.AttActive
	s.shows()
	if after := s.m.Image(); !reflect.DeepEqual(after, before) {
		s.t.Fatalf("%v, before %v", after, before)
	}
}

// do checks a step of a busy attempt, which refuses all requests, and the changes of its view.
func (s *session) do(want step, changes ...change) {
	s.t.Helper()
	s.refuses(api.ErrArg, s.requests()...)
	image := s.m.Image()
	access := want.access(&image)
	if a, phase := s.a.Step(s.m); a != access || phase != want.phase {
		s.t.Fatalf("%v in phase %d, want %v in phase %d", a, phase, access, want.phase)
	}
	for _, change := range changes {
		change(&s.v)
	}
	s.shows()
	if now := s.m.Image(); access.Kind != api.AccNone && values(&now, access.Cell)[access.Index] != access.Put {
		s.t.Fatalf("%v after %v", now, access)
	}
}

// steps checks steps that do not change the view.
func (s *session) steps(list ...step) {
	s.t.Helper()
	for _, want := range list {
		s.do(want)
	}
}

// orec returns the ownership record of an address.
func (s *session) orec(addr int) int {
	return addr % s.c.Orecs
}

func (s *session) begin() {
	s.t.Helper()
	clock := s.m.Image().Clock
	s.ask(s.a.Begin)
	s.do(store(api.PhaseEnter, api.CellSlot, thread, 1))
	s.do(load(api.PhaseClock, api.CellClock, 0), func(v *view) { v.Snapshot = int(clock) })
	s.do(store(api.PhaseActive, api.CellSlot, thread, clock+2), done)
}

func (s *session) askRead(addr uint64) {
	s.t.Helper()
	s.ask(func() api.Errno { return s.a.Read(addr) })
}

func (s *session) askWrite(addr, v uint64) {
	s.t.Helper()
	s.ask(func() api.Errno { return s.a.Write(addr, v) })
}

func (s *session) askAlloc(class int) {
	s.t.Helper()
	s.ask(func() api.Errno { return s.a.Alloc(class) })
}

func (s *session) askFree(addr uint64) {
	s.t.Helper()
	s.ask(func() api.Errno { return s.a.Free(addr) })
}

func (s *session) askEnd(code int) {
	s.t.Helper()
	s.ask(func() api.Errno { return s.a.End(code) })
}

// shared checks the steps of a shared read but the last one, and returns this one.
func (s *session) shared(addr int) step {
	s.t.Helper()
	s.steps(load(api.PhaseOrec, api.CellOrec, s.orec(addr)), load(api.PhaseData, api.CellData, addr))
	return load(api.PhaseAgain, api.CellOrec, s.orec(addr))
}

// read checks a Read of a word that was not read before and is not in the log.
func (s *session) read(addr int) {
	s.t.Helper()
	s.askRead(uint64(addr))
	s.do(s.shared(addr), done, value(s.m.Image().Data[addr]), reads(addr))
}

// write checks a Write of a word that is not in the log.
func (s *session) write(addr int, v uint64) {
	s.t.Helper()
	s.askWrite(uint64(addr), v)
	s.do(local, done, writes(addr))
}

// popped checks the steps of a pop but the last one, and returns this one.
func (s *session) popped(class, block int) step {
	s.t.Helper()
	i := s.m.Image()
	s.steps(load(api.PhaseHead, api.CellHead, class), load(api.PhaseNext, api.CellNext, block))
	return swap(api.PhaseTake, api.CellHead, class, head(s.t, word.Tag(i.Head[class])+1, int(i.Next[block])-1))
}

// alloc checks an Alloc that gets a block whose words are not in the log.
func (s *session) alloc(class, block int) {
	s.t.Helper()
	s.askAlloc(class)
	first := layout.First(s.c, block)
	change := []change{done, value(uint64(first)), allocs(block)}
	for i := range 1 << class {
		change = append(change, writes(first+i))
	}
	s.do(s.popped(class, block), change...)
}

// free checks a Free of a block whose state word is in the log or not.
func (s *session) free(block int, logged bool) {
	s.t.Helper()
	s.askFree(uint64(layout.First(s.c, block)))
	last := local
	if !logged {
		last = s.shared(s.c.Words + block)
	}
	s.do(last, done, frees(block))
}

// turn checks the steps to a turn that comes at once.
func (s *session) turn() {
	s.t.Helper()
	s.steps(step{api.PhaseTicket, api.AccAdd, api.CellTicket, 0, ticket + 1, false}, load(api.PhaseTurn, api.CellServing, 0))
}

// locks checks the locking of ownership records that are free.
func (s *session) locks(orecs ...int) {
	s.t.Helper()
	for _, o := range orecs {
		version := word.Version(s.m.Image().Orec[o])
		s.steps(load(api.PhaseLook, api.CellOrec, o), swap(api.PhaseLock, api.CellOrec, o, held(s.t, version, thread)))
	}
}

// checks checks a validation.
func (s *session) checks(orecs ...int) {
	s.t.Helper()
	for _, o := range orecs {
		s.do(load(api.PhaseCheck, api.CellOrec, o))
	}
}

func (s *session) decide(changes ...change) {
	s.t.Helper()
	s.do(load(api.PhaseDecide, api.CellClock, 0), changes...)
}

// releases checks the release of ownership records with one version.
func (s *session) releases(version int, orecs ...int) {
	s.t.Helper()
	for _, o := range orecs {
		s.do(store(api.PhaseRelease, api.CellOrec, o, free(s.t, version)))
	}
}

func (s *session) pass() {
	s.t.Helper()
	s.do(store(api.PhasePass, api.CellServing, 0, ticket+1))
}

// pushes checks the steps of a push.
func (s *session) pushes(class, block int) {
	s.t.Helper()
	h := s.m.Image().Head[class]
	s.steps(load(api.PhaseTop, api.CellHead, class),
		store(api.PhaseLink, api.CellNext, block, uint64(word.Top(h)+1)),
		swap(api.PhasePush, api.CellHead, class, head(s.t, word.Tag(h)+1, block)))
}

// leaves checks the last step of an attempt, and that it has ended.
func (s *session) leaves() {
	s.t.Helper()
	s.do(store(api.PhaseLeave, api.CellSlot, thread, 0), ended)
	s.idle()
	s.refuses(api.ErrArg, s.requests()...)
}

// data checks some words.
func (s *session) data(words map[int]uint64) {
	s.t.Helper()
	i := s.m.Image()
	for addr, v := range words {
		if i.Data[addr] != v {
			s.t.Fatalf("word %d of %v, want %d", addr, i.Data, v)
		}
	}
}

// P19.1: a new attempt is fresh; its steps do nothing. Only Begin is accepted.
func TestNew(t *testing.T) {
	s := open(t, config)
	s.idle()
	s.refuses(api.ErrArg, s.requests()[1:]...)
	s.idle()
	s.begin()
	s.idle()
	s.refuses(api.ErrArg, s.a.Begin)
	s.idle()
}

// P19.1: an attempt that is active refuses a class or a code that there is not, and goes on.
func TestRange(t *testing.T) {
	s := begun(t, config)
	s.read(0)
	for _, class := range []int{-1, 4, 5, 64, math.MinInt, math.MaxInt} {
		s.refuses(api.ErrRange, func() api.Errno { return s.a.Alloc(class) })
	}
	for _, code := range []int{api.OutNone, api.OutCapacity, api.OutMemory, api.OutRetry, api.OutClock, api.OutAddress, api.OutFree, api.OutConflict, 10, -1, math.MinInt, math.MaxInt} {
		s.refuses(api.ErrRange, func() api.Errno { return s.a.End(code) })
	}
	s.idle()
	s.read(1)
}

// P19.2: the chapter's example. P19.1 and P19.3: what the attempt shows before and after each step.
func TestExample(t *testing.T) {
	c := api.Config{Words: 8, Orecs: 8, Reads: 1, Writes: 1, Clock: 1}
	m, e := cells.New(c, 1, make([]uint64, 8))
	if e != api.OK {
		t.Fatal(e)
	}
	a := attempt.New(c, 0)
	var phases []int
	perform := func(e api.Errno) {
		if e != api.OK {
			t.Fatal(e)
		}
		for a.Busy() {
			_, phase := a.Step(m)
			phases = append(phases, phase)
		}
	}
	perform(a.Begin())
	perform(a.Write(3, 7))
	perform(a.End(api.OutCommitted))
	want := []int{api.PhaseEnter, api.PhaseClock, api.PhaseActive, api.PhaseLocal, api.PhaseLocal, api.PhaseLook, api.PhaseLock, api.PhaseTicket,
		api.PhaseTurn, api.PhaseDecide, api.PhaseWrite, api.PhaseRelease, api.PhaseStamp, api.PhasePass, api.PhaseLeave}
	if !slices.Equal(phases, want) {
		t.Fatalf("%v, want %v", phases, want)
	}
	i := m.Image()
	if i.Data[3] != 7 || i.Orec[3] != free(t, 1) || i.Clock != 1 || i.Ticket != 1 || i.Serving != 1 || i.Slot[0] != 0 {
		t.Fatal(i)
	}
	if v := look(a); !reflect.DeepEqual(v, view{State: api.AttEnded, Code: api.OutCommitted, Decided: true, Version: 1, Writes: []int{3}}) {
		t.Fatalf("%+v", v)
	}
}

// P19.2, P19.3: the snapshot is the clock at PhaseClock, also one that is 0 or the greatest one.
func TestSnapshot(t *testing.T) {
	for _, clock := range []uint64{0, 1, 99, 100, api.MaxVersion} {
		s := open(t, config)
		put(t, s.m, api.CellClock, 0, clock)
		s.begin()
		if got := s.a.Snapshot(); uint64(got) != clock {
			t.Fatal(got, clock)
		}
	}
	s := open(t, config)
	s.ask(s.a.Begin)
	s.do(store(api.PhaseEnter, api.CellSlot, thread, 1))
	put(t, s.m, api.CellClock, 0, 12)
	s.do(load(api.PhaseClock, api.CellClock, 0), func(v *view) { v.Snapshot = 12 })
	put(t, s.m, api.CellClock, 0, 13)
	s.do(store(api.PhaseActive, api.CellSlot, thread, 14), done)
}

// P19.3: the lists of a result are the caller's.
func TestResultsAreCopies(t *testing.T) {
	s := begun(t, config)
	s.read(0)
	s.read(1)
	s.alloc(1, 2)
	s.free(2, true)
	for range 2 {
		reads, writes := s.a.Words()
		for _, l := range [][]int{reads, writes, s.a.Allocs(), s.a.Frees()} {
			if len(l) == 0 {
				t.Fatal("an empty list")
			}
			for k := range l {
				l[k] = -7
			}
			_ = append(l, -8)
		}
		s.shows()
	}
	s.askEnd(api.OutCommitted)
	s.do(local, code(api.OutCommitted))
	s.locks(0, 4, 6)
}

// P19.1: attempts do not share what they hold.
func TestApart(t *testing.T) {
	s := begun(t, config)
	other := begun(t, config)
	s.read(3)
	s.write(1, 7)
	other.shows()
	other.read(1)
	other.alloc(0, 0)
	s.shows()
	s.alloc(1, 2)
	s.idle()
	other.idle()
}

// R1: nothing panics, and no operation of an attempt alone goes on for ever, also for arguments of which nothing more is promised.
func TestAnyArguments(t *testing.T) {
	r := rand.New(rand.NewSource(19))
	numbers := []int{math.MinInt, math.MinInt + 1, -64, -2, -1, 0, 1, 2, 3, 4, 5, 8, 16, 17, 63, 64, 65, 1 << 20, 1 << 40, math.MaxInt - 1, math.MaxInt}
	some := func() int { return numbers[r.Intn(len(numbers))] }
	for range 3000 {
		c := config
		for _, field := range []*int{&c.Words, &c.Orecs, &c.Base, &c.Count[0], &c.Count[1], &c.Reads, &c.Writes, &c.Allocs, &c.Frees, &c.Clock} {
			if r.Intn(4) == 0 {
				*field = some()
			}
		}
		m := create(t, config)
		a := attempt.New(c, some())
		a.Begin()
		for range 20 {
			for left := 200; a.Busy(); left-- {
				if left == 0 {
					t.Fatalf("%v does not end", c)
				}
				a.Step(m)
			}
			switch r.Intn(8) {
			case 0:
				a.Read(uint64(some()))
			case 1:
				a.Write(uint64(some()), 1)
			case 2, 3:
				a.Alloc(some())
			case 4:
				a.Free(uint64(some()))
			case 5:
				a.End(some())
			default:
				a.Read(uint64(r.Intn(16)))
			}
			look(a)
		}
	}
}
