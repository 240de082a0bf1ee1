package turn_test

import (
	"math"
	"math/rand"
	"reflect"
	"testing"

	"strongtx/api"
	"strongtx/cells"
	"strongtx/turn"
)

// create returns cells for some threads, with these counters.
func create(t *testing.T, ticket, serving uint64) *cells.Mem {
	t.Helper()
	c := api.Config{Words: 4, Orecs: 4, Base: 2, Count: [api.Classes]int{2}, Reads: 4, Writes: 4, Clock: api.MaxVersion}
	m, e := cells.New(c, 3, []uint64{9, 8, 7, 6})
	if e != api.OK {
		t.Fatal(e)
	}
	put(t, m, api.CellClock, 77)
	put(t, m, api.CellTicket, ticket)
	put(t, m, api.CellServing, serving)
	return m
}

func put(t *testing.T, m *cells.Mem, cell int, v uint64) {
	t.Helper()
	if _, e := m.Store(cell, 0, v); e != api.OK {
		t.Fatal(cell, e)
	}
}

// taken is the access that takes a ticket.
func taken(ticket uint64) api.Access {
	return api.Access{Kind: api.AccAdd, Cell: api.CellTicket, Got: ticket, Put: ticket + 1, Done: true}
}

// loaded is the access that looks whether the turn has come.
func loaded(serving uint64) api.Access {
	return api.Access{Kind: api.AccLoad, Cell: api.CellServing, Got: serving, Put: serving, Done: true}
}

// passed is the access that hands the turn on.
func passed(got, put uint64) api.Access {
	return api.Access{Kind: api.AccStore, Cell: api.CellServing, Got: got, Put: put, Done: true}
}

func checkAccess(t *testing.T, got, want api.Access) {
	t.Helper()
	if got != want {
		t.Fatalf("%v, want %v", got, want)
	}
}

func checkTurn(t *testing.T, u *turn.Turn, ticket int, done bool) {
	t.Helper()
	if u.Ticket() != ticket || u.Done() != done {
		t.Fatalf("ticket %d, done %v; want %d, %v", u.Ticket(), u.Done(), ticket, done)
	}
}

// checkImage checks that the cells are those of create.
func checkImage(t *testing.T, m *cells.Mem, ticket, serving uint64) {
	t.Helper()
	want := create(t, ticket, serving).Image()
	if i := m.Image(); !reflect.DeepEqual(i, want) {
		t.Fatalf("%v, want %v", i, want)
	}
}

// P10.1: the operations of a machine that need not wait, and of Pass.
func TestTurn(t *testing.T) {
	for _, ticket := range []uint64{0, 1, 2, 41, 1 << 32, api.MaxVersion - 1} {
		m := create(t, ticket, ticket)
		u := turn.New()
		checkTurn(t, u, -1, false)
		checkImage(t, m, ticket, ticket)
		checkAccess(t, u.Step(m), taken(ticket))
		checkTurn(t, u, int(ticket), false)
		checkImage(t, m, ticket+1, ticket)
		checkAccess(t, u.Step(m), loaded(ticket))
		checkTurn(t, u, int(ticket), true)
		checkImage(t, m, ticket+1, ticket)
		checkAccess(t, turn.Pass(m, u.Ticket()), passed(ticket, ticket+1))
		checkTurn(t, u, int(ticket), true)
		checkImage(t, m, ticket+1, ticket+1)
	}
}

// P10.1: the ticket is the counter at the first step, whatever the counter was before and is afterwards.
func TestTicketIsTakenOnce(t *testing.T) {
	m := create(t, 3, 4)
	u := turn.New()
	put(t, m, api.CellTicket, 5)
	checkAccess(t, u.Step(m), taken(5))
	put(t, m, api.CellTicket, 9)
	checkAccess(t, u.Step(m), loaded(4))
	checkTurn(t, u, 5, false)
	turn.Pass(m, 4)
	checkAccess(t, u.Step(m), loaded(5))
	checkTurn(t, u, 5, true)
	checkImage(t, m, 9, 5)
}

// P10.1: a machine loads the serving counter until it is equal to the ticket: a greater one is not enough.
func TestWaits(t *testing.T) {
	m := create(t, 5, 0)
	u := turn.New()
	u.Step(m)
	for _, serving := range []uint64{0, 0, 1, 4, 4, 6, 7, api.MaxVersion, 3, 5} {
		checkTurn(t, u, 5, false)
		put(t, m, api.CellServing, serving)
		checkTurn(t, u, 5, false)
		checkAccess(t, u.Step(m), loaded(serving))
		checkImage(t, m, 6, serving)
	}
	checkTurn(t, u, 5, true)
}

// P10.1: a machine that has finished does nothing, whatever the cells are.
func TestFinished(t *testing.T) {
	m := create(t, 0, 0)
	u := turn.New()
	u.Step(m)
	u.Step(m)
	for _, serving := range []uint64{0, 1, 2, 0} {
		put(t, m, api.CellServing, serving)
		checkAccess(t, u.Step(m), api.Access{})
		checkTurn(t, u, 0, true)
		checkImage(t, m, 1, serving)
	}
}

// P10.1: Pass stores the number after the ticket, whatever the counter was: also the one after the greatest int.
func TestPass(t *testing.T) {
	for _, x := range []struct {
		ticket int
		put    uint64
	}{
		{0, 1}, {1, 2}, {7, 8}, {7, 8}, {2, 3}, {-1, 0}, {api.MaxVersion - 1, api.MaxVersion}, {math.MaxInt32, 1 << 31}, {math.MaxUint32, 1 << 32}, {math.MaxInt - 1, math.MaxInt}, {math.MaxInt, 1 << 63},
	} {
		for _, serving := range []uint64{0, 1, 7, 8, api.MaxVersion} {
			m := create(t, 9, serving)
			checkAccess(t, turn.Pass(m, x.ticket), passed(serving, x.put))
			checkImage(t, m, 9, x.put)
		}
	}
}

// P10.1: the ticket of no machine is passed like any other: by one store, without a panic.
func TestPassOfNoTicket(t *testing.T) {
	for _, ticket := range []int{-2, -3, math.MinInt32, math.MinInt + 1, math.MinInt} {
		m := create(t, 9, 4)
		a := turn.Pass(m, ticket)
		checkAccess(t, a, passed(4, a.Put))
		checkImage(t, m, 9, a.Put)
	}
}

// The chapter's example, with the steps that follow.
func TestExample(t *testing.T) {
	m := create(t, 0, 0)
	first, second := turn.New(), turn.New()
	checkAccess(t, first.Step(m), taken(0))
	checkAccess(t, second.Step(m), taken(1))
	for range 3 {
		checkAccess(t, second.Step(m), loaded(0))
		checkTurn(t, second, 1, false)
	}
	checkTurn(t, first, 0, false)
	checkAccess(t, first.Step(m), loaded(0))
	checkAccess(t, second.Step(m), loaded(0))
	checkTurn(t, first, 0, true)
	checkTurn(t, second, 1, false)
	checkAccess(t, turn.Pass(m, 0), passed(0, 1))
	checkTurn(t, second, 1, false)
	checkAccess(t, second.Step(m), loaded(1))
	checkTurn(t, second, 1, true)
	checkAccess(t, turn.Pass(m, 1), passed(1, 2))
	checkImage(t, m, 2, 2)
}

// P10.1: machines have nothing in common but the cells, and several cells nothing at all.
func TestMachinesAreApart(t *testing.T) {
	here, there := create(t, 0, 0), create(t, 6, 5)
	one, two, far := turn.New(), turn.New(), turn.New()
	one.Step(here)
	checkTurn(t, two, -1, false)
	checkTurn(t, far, -1, false)
	checkAccess(t, far.Step(there), taken(6))
	checkAccess(t, two.Step(here), taken(1))
	one.Step(here)
	checkTurn(t, one, 0, true)
	checkTurn(t, two, 1, false)
	checkTurn(t, far, 6, false)
	turn.Pass(here, 0)
	checkAccess(t, far.Step(there), loaded(5))
	checkAccess(t, two.Step(here), loaded(1))
	checkTurn(t, two, 1, true)
	checkTurn(t, far, 6, false)
}

// A world has threads that take turns and pass them on, again and again.
type world struct {
	m       *cells.Mem
	turns   []*turn.Turn // of the threads; nil for one without a machine
	served  int          // turns that have come
	waited  int          // loads that did not give the turn
	present int          // the most machines with a ticket at a time
}

func newWorld(t *testing.T, threads int) *world {
	return &world{m: create(t, 0, 0), turns: make([]*turn.Turn, threads)}
}

// pick performs one step of a thread, and checks that the turns come in the order of the tickets.
func (w *world) pick(t *testing.T, thread int) {
	t.Helper()
	u := w.turns[thread]
	if u == nil {
		u = turn.New()
		w.turns[thread] = u
	}
	if u.Done() {
		turn.Pass(w.m, u.Ticket())
		w.turns[thread] = nil
		return
	}
	a := u.Step(w.m)
	if u.Done() {
		if u.Ticket() != w.served {
			t.Fatalf("ticket %d has the turn after %d turns", u.Ticket(), w.served)
		}
		w.served++
	} else if a.Cell == api.CellServing {
		w.waited++
	}
	w.present = max(w.present, len(w.ticketed()))
}

// ticketed returns the threads whose tickets are taken and not passed.
func (w *world) ticketed() []int {
	var threads []int
	for thread, u := range w.turns {
		if u != nil {
			threads = append(threads, thread)
		}
	}
	return threads
}

// having returns how many machines have the turn.
func (w *world) having() int {
	n := 0
	for _, u := range w.turns {
		if u != nil && u.Done() {
			n++
		}
	}
	return n
}

// run performs picks and checks after each one that at most one machine has the turn.
func run(t *testing.T, threads int, picks []int) *world {
	t.Helper()
	w := newWorld(t, threads)
	for _, p := range picks {
		w.pick(t, p)
		if n := w.having(); n > 1 {
			t.Fatalf("picks %v: %d machines have the turn", picks, n)
		}
	}
	return w
}

// checkProgress checks after picks that a machine has the turn or gets it with its next step, if there is one with a ticket.
func checkProgress(t *testing.T, threads int, picks []int) {
	t.Helper()
	w := run(t, threads, picks)
	waiting := w.ticketed()
	if len(waiting) == 0 || w.having() == 1 {
		return
	}
	ready := 0
	for _, thread := range waiting {
		next := append(append([]int{}, picks...), thread)
		ready += run(t, threads, next).having()
	}
	if ready != 1 {
		t.Fatalf("picks %v: of the threads %v, %d get the turn with their next step", picks, waiting, ready)
	}
}

// P10.2: all schedules of three threads up to a length.
func TestAllSchedules(t *testing.T) {
	const length, threads = 10, 3
	served, waited, present := 0, 0, 0
	var visit func(picks []int)
	visit = func(picks []int) {
		checkProgress(t, threads, picks)
		if len(picks) == length {
			w := run(t, threads, picks)
			served, waited, present = served+w.served, waited+w.waited, max(present, w.present)
			return
		}
		for thread := range threads {
			visit(append(picks, thread))
		}
	}
	visit(nil)
	if served < 10000 || waited < 10000 || present != threads {
		t.Error("too few turns came or had to be waited for:", served, waited, present)
	}
}

// P10.2: long schedules of more threads.
func TestRandomSchedules(t *testing.T) {
	r := rand.New(rand.NewSource(10))
	served, waited, present := 0, 0, 0
	for range 300 {
		threads := 2 + r.Intn(api.MaxThreads-1)
		picks := make([]int, 400)
		for i := range picks {
			picks[i] = r.Intn(threads)
		}
		w := run(t, threads, picks)
		served, waited, present = served+w.served, waited+w.waited, max(present, w.present)
		checkProgress(t, threads, picks)
		checkProgress(t, threads, picks[:r.Intn(len(picks))])
	}
	if served < 1000 || waited < 1000 || present != api.MaxThreads {
		t.Error("too few turns came or had to be waited for:", served, waited, present)
	}
}

// P10.2: as long as tickets are passed, each one that was taken gets its turn, though each thread but one looks in vain.
func TestNoTicketIsForgotten(t *testing.T) {
	const threads = api.MaxThreads
	w := newWorld(t, threads)
	for thread := threads - 1; thread >= 0; thread-- {
		w.pick(t, thread)
	}
	for round := range threads {
		for thread := range threads {
			if u := w.turns[thread]; u != nil {
				w.pick(t, thread)
				if u.Done() != (thread == threads-1-round) {
					t.Fatal(round, thread, u.Ticket(), u.Done())
				}
			}
		}
		w.pick(t, threads-1-round)
	}
	checkImage(t, w.m, threads, threads)
}
