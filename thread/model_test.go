package thread_test

import (
	"slices"
	"testing"

	"strongtx/alu"
	"strongtx/api"
	"strongtx/cells"
	"strongtx/freelist"
	"strongtx/layout"
	"strongtx/program"
	"strongtx/thread"
	"strongtx/word"
)

// A freed block waits for a fence of its client.
type freed struct {
	block, version int
}

// A client has a thread, and what it should do: whole transactions, each at its decision.
type client struct {
	number   int
	thread   *thread.Thread
	p        []api.Instr
	state    api.Thread
	obs      []api.Obs
	shown    int // observations that the thread has shown
	attempts int
	tries    int // attempts of this execution of a begin
	freed    []freed
	// of the attempt that is under way
	attempting bool
	snapshot   int    // -1 before
	orec       uint64 // by PhaseOrec
	code       int    // with which it ends unless it is decided
	decided    bool
	popped     []int
	frees      []int // if it is decided as committed
	version    int
	// of the fence that is under way
	fencing bool
	limit   int
	watch   []int // the other threads that are left
	push    []int // the blocks that are left
}

// A world has clients, and the words and allocated blocks after all decisions.
type world struct {
	t         *testing.T
	c         api.Config
	m         *cells.Mem
	clients   []*client
	words     []uint64
	allocated []bool
	steps     []api.Step
	counts    map[string]int
}

func newWorld(t *testing.T, c api.Config, programs [][]api.Instr) *world {
	t.Helper()
	w := &world{t: t, c: c, words: make([]uint64, c.Words), allocated: make([]bool, layout.Blocks(c)), counts: map[string]int{}}
	for addr := range w.words {
		w.words[addr] = uint64(addr) % 7
	}
	var e api.Errno
	if w.m, e = cells.New(c, len(programs), w.words); e != api.OK {
		t.Fatal(e)
	}
	for number, p := range programs {
		th, e := thread.New(c, number, len(programs), p)
		if e != api.OK {
			t.Fatal(e)
		}
		w.clients = append(w.clients, &client{number: number, thread: th, p: p, snapshot: -1})
	}
	return w
}

func (c *client) done() bool {
	return c.thread.State().Done
}

func (w *world) done() bool {
	return !slices.ContainsFunc(w.clients, func(c *client) bool { return !c.done() })
}

// pick performs a step of a client that is not done, and what it should do.
func (w *world) pick(number int) {
	w.t.Helper()
	c := w.clients[number]
	before := w.m.Image()
	s, events, ok := c.thread.Step(w.m)
	if !ok {
		w.t.Fatal(number, c.thread.State())
	}
	checkStep(w.t, number, before, w.m.Image(), s)
	w.steps = append(w.steps, s)
	var want []api.Event
	switch {
	case s.Attempt > 0:
		want = w.attempt(c, s, len(events) > 0)
	case s.Phase == api.PhaseLocal || s.Phase == api.PhasePlain:
		want = w.instruction(c, s)
	default:
		w.fence(c, s)
	}
	if !sameEvents(events, want) {
		w.t.Fatalf("%v: events %v, want %v", s, events, want)
	}
	w.compare(c)
}

// compare checks what a thread shows.
func (w *world) compare(c *client) {
	w.t.Helper()
	obs := c.thread.Obs()
	if c.attempting {
		// What was decided is not to be seen before the end.
		if len(obs) != c.shown || c.thread.State().Done {
			w.t.Fatalf("%v", obs)
		}
		return
	}
	c.shown = len(obs)
	c.state.Done = c.state.Pc == len(c.p)
	if state := c.thread.State(); state != c.state || !slices.Equal(obs, c.obs) || c.thread.Attempts() != c.attempts {
		w.t.Fatalf("%v, %v, %d; want %v, %v, %d", state, obs, c.thread.Attempts(), c.state, c.obs, c.attempts)
	}
}

func (c *client) current() api.Instr {
	return c.p[c.state.Pc]
}

func (c *client) observe(pc, kind int, v uint64) {
	c.obs = append(c.obs, api.Obs{Pc: pc, Kind: kind, Value: v})
}

// address returns the address of a read, or that of a write.
func (c *client) address(i api.Instr) uint64 {
	if i.Op == api.OpTRead || i.Op == api.OpPRead {
		return c.state.Regs[i.B] + uint64(i.Imm)
	}
	return c.state.Regs[i.A] + uint64(i.Imm)
}

// isAccess reports whether an instruction is a plain access.
func isAccess(i api.Instr) bool {
	return i.Op == api.OpPRead || i.Op == api.OpPWrite
}

// instruction executes an instruction that is one step.
func (w *world) instruction(c *client, s api.Step) []api.Event {
	w.t.Helper()
	i := c.current()
	if !isAccess(i) {
		if s.Phase != api.PhaseLocal || c.attempting {
			w.t.Fatal(s, i)
		}
		c.compute(i)
		return nil
	}
	addr := c.address(i)
	if addr >= uint64(w.c.Words) {
		w.counts["fault"]++
		if s.Phase != api.PhaseLocal {
			w.t.Fatal(s, i)
		}
		if i.Op == api.OpPRead {
			c.state.Regs[i.A] = 0
		}
		c.observe(c.state.Pc, api.ObsFault, api.OutAddress)
		c.state.Pc++
		return nil
	}
	if s.Phase != api.PhasePlain || w.c.Strong {
		w.t.Fatal(s, i)
	}
	w.counts["plain"]++
	kind := map[int]int{api.OpPRead: api.EvRead, api.OpPWrite: api.EvWrite}[i.Op]
	w.access(c, i)
	return []api.Event{{Thread: c.number, Kind: kind, Word: int(addr)}}
}

// compute executes a local instruction.
func (c *client) compute(i api.Instr) {
	r := &c.state.Regs
	skipped := 0
	switch i.Op {
	case api.OpConst:
		r[i.A] = uint64(i.Imm)
	case api.OpMove:
		r[i.A] = r[i.B]
	case api.OpArith:
		r[i.A], _ = alu.Apply(i.Imm, r[i.B], r[i.C])
	case api.OpOutcome:
		r[i.A] = uint64(c.state.Outcome)
	}
	if i.Op == api.OpJump || i.Op == api.OpZero && r[i.A] == 0 || i.Op == api.OpNonzero && r[i.A] != 0 {
		skipped = i.Imm
	}
	c.state.Pc += 1 + skipped
}

// access executes a plain access that is no fault.
func (w *world) access(c *client, i api.Instr) {
	addr := c.address(i)
	if i.Op == api.OpPRead {
		c.state.Regs[i.A] = w.words[addr]
		c.observe(c.state.Pc, api.ObsPlain, w.words[addr])
	} else {
		w.words[addr] = c.state.Regs[i.B]
		c.observe(c.state.Pc, api.ObsStore, c.state.Regs[i.B])
	}
	c.state.Pc++
}

// attempt follows a step of an attempt. At its decision the whole transaction is executed.
func (w *world) attempt(c *client, s api.Step, decided bool) []api.Event {
	w.t.Helper()
	switch s.Phase {
	case api.PhaseEnter:
		w.open(c)
	case api.PhaseClock:
		c.snapshot = int(s.Access.Got)
		return []api.Event{{Thread: c.number, Kind: api.EvBegin}}
	case api.PhaseOrec:
		c.orec = s.Access.Got
	case api.PhaseTake:
		if s.Access.Done {
			c.popped = append(c.popped, word.Top(s.Access.Got))
		}
	case api.PhaseStamp:
		c.version = int(s.Access.Put)
	case api.PhaseDecide:
		if decided {
			c.decided = true
			return []api.Event{w.execute(c)}
		}
	}
	if c.attempts != s.Attempt || !c.attempting {
		w.t.Fatalf("%v in attempt %d", s, c.attempts)
	}
	c.expect(s)
	if s.Phase == api.PhaseLeave {
		w.leave(c)
	}
	return nil
}

// open begins an attempt.
func (w *world) open(c *client) {
	w.t.Helper()
	i := c.current()
	switch {
	case i.Op == api.OpBegin:
		c.tries++
	case !isAccess(i) || !w.c.Strong || c.address(i) >= uint64(w.c.Words):
		w.t.Fatal(i)
	}
	c.attempts++
	c.attempting, c.decided, c.code = true, false, api.OutNone
	c.popped, c.frees = nil, nil
}

// expect notes how an attempt ends if it goes on to its end, undecided, from this step.
func (c *client) expect(s api.Step) {
	switch s.Phase {
	case api.PhaseOrec, api.PhaseCheck:
		c.code = api.OutConflict
	case api.PhaseAgain:
		c.code = api.OutCapacity
		if s.Access.Got != c.orec {
			c.code = api.OutConflict
		}
	case api.PhaseHead:
		c.code = api.OutMemory
	case api.PhaseTake, api.PhaseLocal:
		c.code = api.OutCapacity
	case api.PhaseDecide:
		c.code = api.OutClock
	}
}

// leave ends an attempt.
func (w *world) leave(c *client) {
	w.t.Helper()
	c.attempting, c.snapshot = false, -1
	if c.decided {
		for _, b := range c.frees {
			c.freed = append(c.freed, freed{b, c.version})
		}
		c.tries = 0
		return
	}
	i := c.current()
	switch {
	case isAccess(i) && c.code == api.OutClock && i.Op == api.OpPWrite:
		w.counts["clock fault"]++
		c.observe(c.state.Pc, api.ObsFault, api.OutClock)
		c.state.Pc++
	case isAccess(i):
		w.counts["access again"]++
		if c.code != api.OutConflict {
			w.t.Fatal(i, c.code)
		}
	case c.code == api.OutConflict && c.tries < i.Imm:
		w.counts["transaction again"]++
	case c.code == api.OutConflict:
		w.conclude(c, api.OutRetry)
		c.tries = 0
	default:
		w.conclude(c, c.code)
		c.tries = 0
	}
}

// conclude sets the outcome of the transaction that begins here.
func (w *world) conclude(c *client, code int) {
	w.counts["outcome "+string(rune('0'+code))]++
	c.state.Outcome = code
	c.observe(c.state.Pc, api.ObsOutcome, uint64(code))
	c.state.Pc = program.Commit(c.p, c.state.Pc) + 1
}

// execute executes what is decided, and returns its event.
func (w *world) execute(c *client) api.Event {
	w.t.Helper()
	event := api.Event{Thread: c.number, Kind: api.EvEnd}
	i := c.current()
	if isAccess(i) {
		w.counts["strong access"]++
		words := []int{int(c.address(i))}
		if i.Op == api.OpPRead {
			event.Reads = words
		} else {
			event.Writes = words
		}
		w.access(c, i)
		return event
	}
	x := &transaction{world: w, client: c, words: slices.Clone(w.words), allocated: slices.Clone(w.allocated)}
	begin, regs := c.state.Pc, c.state.Regs
	code := x.run()
	c.state.Pc = begin
	event.Reads = x.reads
	if code == api.OutCommitted {
		event.Writes = x.writes
		w.words, w.allocated = x.words, x.allocated
		c.obs = append(c.obs, x.seen...)
		c.frees = x.frees
	} else {
		c.state.Regs = regs
	}
	w.conclude(c, code)
	return event
}

// fence follows a step of a fence.
func (w *world) fence(c *client, s api.Step) {
	w.t.Helper()
	if c.current().Op != api.OpFence || c.fencing != (s.Phase != api.PhaseFence) {
		w.t.Fatal(c.state, s)
	}
	switch s.Phase {
	case api.PhaseFence:
		c.fencing, c.limit, c.watch = true, int(s.Access.Got), nil
		for other := range w.clients {
			if other != c.number {
				c.watch = append(c.watch, other)
			}
		}
	case api.PhaseWatch:
		if len(c.watch) == 0 || c.watch[0] != s.Access.Index {
			w.t.Fatal(c.watch, s)
		}
		if s.Access.Got == 0 || s.Access.Got > 1 && int(s.Access.Got)-2 >= c.limit {
			c.watch = c.watch[1:]
		} else {
			w.counts["wait"]++
		}
	default:
		w.push(c, s)
		return
	}
	if len(c.watch) == 0 {
		w.passed(c)
	}
}

// passed goes on with the drain of a fence that no thread hinders any more.
func (w *world) passed(c *client) {
	w.t.Helper()
	for _, other := range w.clients {
		if other != c && other.attempting && other.snapshot >= 0 && other.snapshot < c.limit {
			w.t.Fatalf("an attempt with the snapshot %d after a fence with the limit %d", other.snapshot, c.limit)
		}
	}
	var rest []freed
	for _, f := range c.freed {
		if f.version <= c.limit {
			c.push = append(c.push, f.block)
		} else {
			rest = append(rest, f)
		}
	}
	c.freed = rest
	w.finishFence(c)
}

// push follows a step of a drain.
func (w *world) push(c *client, s api.Step) {
	w.t.Helper()
	if len(c.watch) > 0 || len(c.push) == 0 {
		w.t.Fatal(c.watch, c.push, s)
	}
	switch {
	case s.Phase == api.PhaseLink && s.Access.Index != c.push[0]:
		w.t.Fatal(c.push, s)
	case s.Phase == api.PhasePush && s.Access.Done:
		w.counts["push"]++
		c.push = c.push[1:]
		w.finishFence(c)
	}
}

func (w *world) finishFence(c *client) {
	if len(c.push) == 0 {
		w.counts["fence"]++
		c.fencing = false
		c.observe(c.state.Pc, api.ObsFence, 0)
		c.state.Pc++
	}
}

// check checks the cells after all clients are done.
func (w *world) check() {
	w.t.Helper()
	i := w.m.Image()
	if !slices.Equal(i.Data[:w.c.Words], w.words) || i.Ticket != i.Serving {
		w.t.Fatalf("%v, want the words %v", i, w.words)
	}
	places := make([]int, len(w.allocated))
	for class := range api.Classes {
		blocks, e := freelist.List(i, class)
		if e != api.OK {
			w.t.Fatal(i, e)
		}
		for _, b := range blocks {
			places[b]++
		}
	}
	for _, c := range w.clients {
		for _, f := range c.freed {
			places[f.block]++
		}
	}
	for b := range places {
		if w.allocated[b] {
			places[b]++
		}
		if places[b] != 1 || w.allocated[b] != (i.Data[w.c.Words+b] != 0) {
			w.t.Fatalf("%v: the blocks are in %v places", i, places)
		}
	}
}

// A transaction is executed on copies.
type transaction struct {
	*world
	*client
	words     []uint64
	allocated []bool
	reads     []int
	writes    []int
	seen      []api.Obs
	frees     []int
}

// run executes the instructions behind the begin, and returns the outcome.
func (x *transaction) run() int {
	x.t.Helper()
	x.state.Pc++
	for {
		if code := x.one(x.current()); code != api.OutNone {
			if len(x.popped) > 0 {
				x.t.Fatal("blocks that were not allocated:", x.popped)
			}
			return code
		}
	}
}

// one executes an instruction, and returns the outcome if it ends the transaction.
func (x *transaction) one(i api.Instr) int {
	x.t.Helper()
	switch i.Op {
	case api.OpCommit:
		return api.OutCommitted
	case api.OpAbort:
		return api.OutUser
	case api.OpTRead, api.OpTWrite:
		addr := x.address(i)
		if addr >= uint64(x.c.Words) {
			return api.OutAddress
		}
		if i.Op == api.OpTWrite {
			x.write(int(addr), x.state.Regs[i.B])
			break
		}
		if !slices.Contains(x.writes, int(addr)) && !slices.Contains(x.reads, int(addr)) {
			x.reads = append(x.reads, int(addr))
		}
		x.get(i, api.ObsRead, x.words[addr])
	case api.OpAlloc:
		x.alloc(i)
	case api.OpFree:
		b := layout.Find(x.c, x.state.Regs[i.A])
		if b < 0 || !x.allocated[b] {
			return api.OutFree
		}
		x.allocated[b] = false
		x.frees = append(x.frees, b)
	default:
		x.compute(i)
		return api.OutNone
	}
	x.state.Pc++
	return api.OutNone
}

func (x *transaction) write(addr int, v uint64) {
	if !slices.Contains(x.writes, addr) {
		x.writes = append(x.writes, addr)
	}
	x.words[addr] = v
}

// get sets the register of a tread or alloc.
func (x *transaction) get(i api.Instr, kind int, v uint64) {
	x.state.Regs[i.A] = v
	x.seen = append(x.seen, api.Obs{Pc: x.state.Pc, Kind: kind, Value: v})
}

// alloc takes the next block that the attempt has popped.
func (x *transaction) alloc(i api.Instr) {
	x.t.Helper()
	if len(x.popped) == 0 || x.allocated[x.popped[0]] || layout.Class(x.c, x.popped[0]) != i.Imm {
		x.t.Fatal(i, x.popped, x.allocated)
	}
	b := x.popped[0]
	x.popped = x.popped[1:]
	x.allocated[b] = true
	first := layout.First(x.c, b)
	for k := range 1 << i.Imm {
		x.write(first+k, 0)
	}
	x.get(i, api.ObsAlloc, uint64(first))
}
