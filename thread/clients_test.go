package thread_test

import (
	"math/rand"
	"slices"
	"testing"

	"strongtx/api"
	"strongtx/program"
)

// A places chooses the address of an access: a register and an Imm.
type places func(r *rand.Rand, inside bool) (base, imm int)

// anywhere chooses all words, and some beyond.
func anywhere(words int) places {
	return func(r *rand.Rand, inside bool) (base, imm int) {
		return r.Intn(api.Registers), r.Intn(words+3) - 1
	}
}

// apart chooses, for plain accesses, the word of a client at 6 or behind it, or beyond the words; for transactions, also the words before 6. Register 0 stays 0.
func apart(number int) places {
	return func(r *rand.Rand, inside bool) (base, imm int) {
		switch x := r.Intn(8); {
		case x == 0:
			return 0, -1 - r.Intn(3)
		case x == 1 || !inside:
			return 0, 6 + number
		}
		return 0, r.Intn(6)
	}
}

// randomProgram returns a valid program.
func randomProgram(r *rand.Rand, where places) []api.Instr {
	var p []api.Instr
	begin := func() api.Instr { return api.Instr{Op: api.OpBegin, Imm: 1 + r.Intn(3)} }
	commit := api.Instr{Op: api.OpCommit}
	for range 1 + r.Intn(6) {
		switch r.Intn(5) {
		case 0:
			a, class := 1+r.Intn(3), r.Intn(2)
			p = append(p, begin(), api.Instr{Op: api.OpAlloc, A: a, Imm: class}, commit, randomInstr(r, where, false),
				begin(), api.Instr{Op: api.OpFree, A: a}, randomInstr(r, where, true), commit, api.Instr{Op: api.OpFence})
		case 1, 2:
			p = append(p, randomInstr(r, where, false))
		default:
			p = append(p, begin())
			for range r.Intn(6) {
				p = append(p, randomInstr(r, where, true))
			}
			p = append(p, commit)
		}
	}
	for {
		k, e := program.Check(p)
		if e == api.OK {
			return p
		}
		// Only a jump can be wrong. One without a distance is right everywhere.
		p[k].Imm = 0
	}
}

func randomInstr(r *rand.Rand, where places, inside bool) api.Instr {
	a, b, c := 1+r.Intn(7), r.Intn(8), r.Intn(8)
	base, imm := where(r, inside)
	common := []api.Instr{
		{Op: api.OpNop},
		{Op: api.OpConst, A: a, Imm: r.Intn(9)},
		{Op: api.OpMove, A: a, B: b},
		{Op: api.OpArith, A: a, B: b, C: c, Imm: r.Intn(api.Functions)},
		{Op: api.OpJump, Imm: r.Intn(4)},
		{Op: api.OpZero, A: b, Imm: r.Intn(4)},
		{Op: api.OpNonzero, A: b, Imm: r.Intn(4)},
	}
	special := []api.Instr{
		{Op: api.OpPRead, A: a, B: base, Imm: imm},
		{Op: api.OpPWrite, A: base, B: b, Imm: imm},
		{Op: api.OpFence},
		{Op: api.OpOutcome, A: a},
	}
	if inside {
		special = []api.Instr{
			{Op: api.OpTRead, A: a, B: base, Imm: imm},
			{Op: api.OpTRead, A: a, B: base, Imm: imm},
			{Op: api.OpTWrite, A: base, B: b, Imm: imm},
			{Op: api.OpTWrite, A: base, B: b, Imm: imm},
			{Op: api.OpAlloc, A: 1 + r.Intn(3), Imm: r.Intn(2)},
			{Op: api.OpAlloc, A: 1 + r.Intn(3), Imm: r.Intn(2)},
			{Op: api.OpFree, A: 1 + r.Intn(3)},
			{Op: api.OpFree, A: 1 + r.Intn(3)},
			{Op: api.OpAbort},
		}
	}
	if r.Intn(4) == 0 {
		return common[r.Intn(len(common))]
	}
	return special[r.Intn(len(special))]
}

// heap has the blocks 0 at 2 and 1 at 3 (class 0), and 2 at 4 and 5 (class 1), and words for four clients.
func heap(r *rand.Rand) api.Config {
	return api.Config{Words: 10, Orecs: 1 + r.Intn(13), Base: 2, Count: [api.Classes]int{2, 1}, Reads: 1 + r.Intn(5), Writes: 1 + r.Intn(8),
		Allocs: r.Intn(4), Frees: r.Intn(3), Clock: r.Intn(30), Strong: r.Intn(2) == 0}
}

// random performs picks until all clients are done; in some parts one of them is alone.
func (w *world) random(r *rand.Rand) {
	w.t.Helper()
	for range 20000 {
		if w.done() {
			return
		}
		times := 1
		if r.Intn(20) == 0 {
			times = 30
		}
		number := r.Intn(len(w.clients))
		for range times {
			if !w.clients[number].done() {
				w.pick(number)
			}
		}
	}
	w.t.Fatal("the clients are not done")
}

// enough checks that each of some cases has happened often enough.
func enough(t *testing.T, least int, counts map[string]int, cases ...string) {
	t.Helper()
	for _, x := range cases {
		if counts[x] < least {
			t.Errorf("%s: only %d", x, counts[x])
		}
	}
}

func (w *world) add(counts map[string]int) {
	for x, n := range w.counts {
		counts[x] += n
	}
}

// P20.1, P20.2, P20.3: what threads do, step by step, is what one does after another: in strong mode for all clients, in weak mode for those whose plain accesses are to words of their own. The same picks make the same steps.
func TestClients(t *testing.T) {
	counts := map[string]int{}
	for seed := range int64(2500) {
		r := rand.New(rand.NewSource(seed))
		c := heap(r)
		programs := make([][]api.Instr, 1+r.Intn(4))
		for number := range programs {
			where := apart(number)
			if c.Strong || len(programs) == 1 {
				where = anywhere(c.Words)
			}
			programs[number] = randomProgram(r, where)
		}
		w := newWorld(t, c, programs)
		w.random(r)
		w.check()
		w.add(counts)
		if again := newWorld(t, c, programs); seed%10 == 0 {
			for _, s := range w.steps {
				again.pick(s.Thread)
			}
			if !slices.Equal(again.steps, w.steps) {
				t.Fatal(again.steps, w.steps)
			}
		}
	}
	enough(t, 20, counts, "outcome 1", "outcome 2", "outcome 3", "outcome 4", "outcome 5", "outcome 6", "outcome 7", "outcome 8",
		"fault", "clock fault", "plain", "strong access", "access again", "transaction again", "fence", "wait", "push")
}

// P20.1, P20.2: two clients under all schedules in which one of them makes some steps, and then each of the next eight is made by any of them.
func TestAllSchedules(t *testing.T) {
	const length = 8
	counts := map[string]int{}
	for _, x := range []struct {
		one, two string
		strong   bool
	}{
		{"begin 2; tread r1 r0 0; twrite r0 r1 1; commit; outcome r2", "begin 1; tread r1 r0 1; const r2 5; twrite r0 r2 0; commit", false},
		{"pread r1 r0 0; pwrite r0 r1 1", "pwrite r0 r0 0; pread r2 r0 1; pread r3 r0 9", true},
		{"begin 2; alloc r1 0; twrite r0 r1 6; commit; begin 1; free r1; commit; fence", "begin 3; tread r1 r0 6; free r1; commit; fence; outcome r7", false},
	} {
		programs := [][]api.Instr{assemble(t, x.one), assemble(t, x.two)}
		c := api.Config{Words: 7, Orecs: 7, Base: 2, Count: [api.Classes]int{2, 1}, Reads: 4, Writes: 4, Allocs: 2, Frees: 2, Clock: 9, Strong: x.strong}
		for first := 0; first < 34; first += 3 {
			for bits := range 1 << length {
				w := newWorld(t, c, programs)
				for range first {
					w.pickOpen(0)
				}
				for k := range length {
					w.pickOpen(bits >> k & 1)
				}
				w.random(rand.New(rand.NewSource(int64(bits))))
				w.check()
				w.add(counts)
			}
		}
	}
	enough(t, 20, counts, "outcome 1", "outcome 5", "outcome 8", "fault", "strong access", "access again", "transaction again", "fence", "wait", "push")
}

// pickOpen performs a step of a client, unless it is done.
func (w *world) pickOpen(number int) {
	w.t.Helper()
	if !w.clients[number].done() {
		w.pick(number)
	}
}
