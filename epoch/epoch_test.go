package epoch_test

import (
	"math"
	"math/rand"
	"reflect"
	"slices"
	"testing"

	"strongtx/api"
	"strongtx/cells"
	"strongtx/epoch"
	"strongtx/word"
)

// noThreads are numbers of which no thread of the machines of these tests has one.
var noThreads = []int{math.MinInt, -1, 16, 17, 1 << 32, math.MaxInt}

// create returns cells for some threads, with this clock.
func create(t *testing.T, threads int, clock uint64) *cells.Mem {
	t.Helper()
	c := api.Config{Words: 4, Orecs: 4, Base: 2, Count: [api.Classes]int{2}, Reads: 4, Writes: 4, Clock: api.MaxVersion}
	m, e := cells.New(c, threads, []uint64{9, 8, 7, 6})
	if e != api.OK {
		t.Fatal(e)
	}
	put(t, m, api.CellClock, 0, clock)
	return m
}

func put(t *testing.T, m *cells.Mem, cell, index int, v uint64) {
	t.Helper()
	if _, e := m.Store(cell, index, v); e != api.OK {
		t.Fatal(cell, index, e)
	}
}

// stored is the access of a store to a slot.
func stored(thread int, got, put uint64) api.Access {
	return api.Access{Kind: api.AccStore, Cell: api.CellSlot, Index: thread, Got: got, Put: put, Done: true}
}

// loaded is the access of a load.
func loaded(cell, index int, v uint64) api.Access {
	return api.Access{Kind: api.AccLoad, Cell: cell, Index: index, Got: v, Put: v, Done: true}
}

func checkAccess(t *testing.T, got, want api.Access) {
	t.Helper()
	if got != want {
		t.Fatalf("%v, want %v", got, want)
	}
}

func checkEnter(t *testing.T, e *epoch.Enter, snapshot int, done bool) {
	t.Helper()
	if e.Snapshot() != snapshot || e.Done() != done {
		t.Fatalf("snapshot %d, done %v; want %d, %v", e.Snapshot(), e.Done(), snapshot, done)
	}
}

func checkFence(t *testing.T, f *epoch.Fence, limit int, done bool) {
	t.Helper()
	if f.Limit() != limit || f.Done() != done {
		t.Fatalf("limit %d, done %v; want %d, %v", f.Limit(), f.Done(), limit, done)
	}
}

// checkImage checks that the cells are those of create, but for the clock and the slots.
func checkImage(t *testing.T, m *cells.Mem, clock uint64, slots []uint64) {
	t.Helper()
	want := create(t, len(slots), clock).Image()
	want.Slot = slots
	if i := m.Image(); !reflect.DeepEqual(i, want) {
		t.Fatalf("%v, want %v", i, want)
	}
}

// P9.1: the operations of an Enter and of Leave, with other slots beside.
func TestEnter(t *testing.T) {
	for _, clock := range []uint64{0, 1, 2, 5, api.MaxVersion - 1, api.MaxVersion} {
		for thread := range api.MaxThreads {
			m := create(t, api.MaxThreads, clock)
			slots := make([]uint64, api.MaxThreads)
			for i := range slots {
				slots[i] = uint64(i % 3)
				put(t, m, api.CellSlot, i, slots[i])
			}
			e := epoch.NewEnter(thread)
			checkEnter(t, e, -1, false)
			checkImage(t, m, clock, slots)
			checkAccess(t, e.Step(m), stored(thread, slots[thread], 1))
			checkEnter(t, e, -1, false)
			checkAccess(t, e.Step(m), loaded(api.CellClock, 0, clock))
			checkEnter(t, e, int(clock), false)
			slots[thread] = api.SlotEntering
			checkImage(t, m, clock, slots)
			checkAccess(t, e.Step(m), stored(thread, 1, clock+2))
			checkEnter(t, e, int(clock), true)
			slots[thread] = clock + 2
			checkImage(t, m, clock, slots)
			checkAccess(t, epoch.Leave(m, thread), stored(thread, clock+2, 0))
			slots[thread] = api.SlotIdle
			checkImage(t, m, clock, slots)
			checkAccess(t, epoch.Leave(m, thread), stored(thread, 0, 0))
			checkImage(t, m, clock, slots)
		}
	}
}

// P9.1: the snapshot is the clock at its load, whatever the clock was before and is afterwards.
func TestSnapshotIsLoadedOnce(t *testing.T) {
	m := create(t, 2, 3)
	e := epoch.NewEnter(1)
	e.Step(m)
	put(t, m, api.CellClock, 0, 4)
	checkAccess(t, e.Step(m), loaded(api.CellClock, 0, 4))
	put(t, m, api.CellClock, 0, 9)
	checkAccess(t, e.Step(m), stored(1, 1, 6))
	checkEnter(t, e, 4, true)
}

// P9.1: a machine that has finished does nothing, whatever the cells are.
func TestFinished(t *testing.T) {
	m := create(t, 2, 3)
	e, f := epoch.NewEnter(1), epoch.NewFence(1, 2)
	for range 3 {
		e.Step(m)
	}
	f.Step(m)
	f.Step(m)
	epoch.Leave(m, 1)
	put(t, m, api.CellClock, 0, 8)
	put(t, m, api.CellSlot, 0, api.SlotEntering)
	for range 5 {
		checkAccess(t, e.Step(m), api.Access{})
		checkEnter(t, e, 3, true)
		checkAccess(t, f.Step(m), api.Access{})
		checkFence(t, f, 3, true)
		checkImage(t, m, 8, []uint64{1, 0})
	}
}

// P9.1: for a thread without a slot the stores do nothing, and the clock is loaded all the same.
func TestEnterWithoutSlot(t *testing.T) {
	for _, thread := range append([]int{2, 15}, noThreads...) {
		m := create(t, 2, 6)
		e := epoch.NewEnter(thread)
		checkAccess(t, e.Step(m), api.Access{})
		checkEnter(t, e, -1, false)
		checkAccess(t, e.Step(m), loaded(api.CellClock, 0, 6))
		checkEnter(t, e, 6, false)
		checkAccess(t, e.Step(m), api.Access{})
		checkEnter(t, e, 6, true)
		checkAccess(t, e.Step(m), api.Access{})
		checkAccess(t, epoch.Leave(m, thread), api.Access{})
		checkImage(t, m, 6, []uint64{0, 0})
	}
}

// P9.1: for which slots a fence waits.
func TestFencePasses(t *testing.T) {
	const top = api.MaxVersion
	for _, x := range []struct {
		limit, slot uint64
		passes      bool
	}{
		{0, 0, true}, {0, 1, false}, {0, 2, true}, {0, 3, true}, {0, top + 2, true},
		{1, 0, true}, {1, 1, false}, {1, 2, false}, {1, 3, true}, {1, 4, true},
		{5, 0, true}, {5, 1, false}, {5, 2, false}, {5, 4, false}, {5, 5, false}, {5, 6, false}, {5, 7, true}, {5, 8, true}, {5, top + 2, true},
		{top, 0, true}, {top, 1, false}, {top, 2, false}, {top, top, false}, {top, top + 1, false}, {top, top + 2, true},
	} {
		m := create(t, 2, x.limit)
		put(t, m, api.CellSlot, 1, x.slot)
		f := epoch.NewFence(0, 2)
		checkFence(t, f, -1, false)
		checkAccess(t, f.Step(m), loaded(api.CellClock, 0, x.limit))
		checkFence(t, f, int(x.limit), false)
		checkAccess(t, f.Step(m), loaded(api.CellSlot, 1, x.slot))
		if f.Done() != x.passes {
			t.Errorf("limit %d, slot %d: done %v", x.limit, x.slot, f.Done())
		}
	}
}

// P9.1, with the chapter's example: a fence watches a slot as long as it has to wait for it, and its limit stays.
func TestFenceWaits(t *testing.T) {
	for _, last := range []uint64{7, 0} {
		m := create(t, 2, 5)
		put(t, m, api.CellSlot, 1, api.SlotEntering)
		f := epoch.NewFence(0, 2)
		f.Step(m)
		put(t, m, api.CellClock, 0, 6)
		for _, slot := range []uint64{1, 1, 6, 6, 6, 1, 2, last} {
			checkFence(t, f, 5, false)
			put(t, m, api.CellSlot, 1, slot)
			checkAccess(t, f.Step(m), loaded(api.CellSlot, 1, slot))
		}
		checkFence(t, f, 5, true)
		checkImage(t, m, 6, []uint64{0, last})
	}
}

// P9.1: the other slots are watched in ascending order, each until it passes and not again; the own slot never is.
func TestFenceOrder(t *testing.T) {
	for threads := 1; threads <= api.MaxThreads; threads++ {
		for thread := range threads {
			m := create(t, threads, 7)
			for i := range threads {
				put(t, m, api.CellSlot, i, blocking(i))
			}
			f := epoch.NewFence(thread, threads)
			checkFence(t, f, -1, false)
			checkAccess(t, f.Step(m), loaded(api.CellClock, 0, 7))
			for i := range threads {
				if i == thread {
					continue
				}
				for range i % 4 {
					checkFence(t, f, 7, false)
					checkAccess(t, f.Step(m), loaded(api.CellSlot, i, blocking(i)))
				}
				checkFence(t, f, 7, false)
				put(t, m, api.CellSlot, i, 9)
				checkAccess(t, f.Step(m), loaded(api.CellSlot, i, 9))
				put(t, m, api.CellSlot, i, api.SlotEntering)
			}
			checkFence(t, f, 7, true)
			checkAccess(t, f.Step(m), api.Access{})
		}
	}
}

// blocking returns one of three slots for which a fence with the limit 7 waits.
func blocking(i int) uint64 {
	return []uint64{1, 2, 8}[i%3]
}

// P9.1: without another thread a fence has finished after the load of the clock, also if the numbers of threads are not possible.
func TestFenceAlone(t *testing.T) {
	for _, x := range []struct{ thread, threads int }{
		{0, 1}, {0, 0}, {1, 0}, {-1, 0}, {0, -1}, {-1, -1}, {5, -7}, {math.MinInt, math.MinInt}, {math.MaxInt, math.MinInt}, {math.MaxInt, 0}, {0, math.MinInt},
	} {
		m := create(t, 1, 4)
		put(t, m, api.CellSlot, 0, api.SlotEntering)
		f := epoch.NewFence(x.thread, x.threads)
		checkFence(t, f, -1, false)
		checkAccess(t, f.Step(m), loaded(api.CellClock, 0, 4))
		checkFence(t, f, 4, true)
		checkAccess(t, f.Step(m), api.Access{})
		checkImage(t, m, 4, []uint64{1})
	}
}

// P9.1: a fence of a thread that is none of the others watches all slots.
func TestFenceOfNoThread(t *testing.T) {
	for _, thread := range append([]int{3, 4}, noThreads...) {
		m := create(t, 3, 2)
		f := epoch.NewFence(thread, 3)
		checkAccess(t, f.Step(m), loaded(api.CellClock, 0, 2))
		for i := range 3 {
			checkFence(t, f, 2, false)
			checkAccess(t, f.Step(m), loaded(api.CellSlot, i, 0))
		}
		checkFence(t, f, 2, true)
	}
}

// P9.1: slots that do not exist are as if they were idle.
func TestFenceWithoutSlots(t *testing.T) {
	m := create(t, 2, 2)
	put(t, m, api.CellSlot, 1, 2)
	f := epoch.NewFence(0, 5)
	f.Step(m)
	checkAccess(t, f.Step(m), loaded(api.CellSlot, 1, 2))
	epoch.Leave(m, 1)
	checkAccess(t, f.Step(m), loaded(api.CellSlot, 1, 0))
	for range 3 {
		checkFence(t, f, 2, false)
		checkAccess(t, f.Step(m), api.Access{})
	}
	checkFence(t, f, 2, true)

	f = epoch.NewFence(0, math.MaxInt)
	f.Step(m)
	f.Step(m)
	for range 1000 {
		checkAccess(t, f.Step(m), api.Access{})
		checkFence(t, f, 2, false)
	}
	checkImage(t, m, 2, []uint64{0, 0})
}

// P9.1: machines have nothing in common but the cells.
func TestMachinesAreApart(t *testing.T) {
	m := create(t, 3, 1)
	one, two := epoch.NewEnter(0), epoch.NewEnter(1)
	first, second := epoch.NewFence(2, 3), epoch.NewFence(1, 3)
	one.Step(m)
	one.Step(m)
	first.Step(m)
	put(t, m, api.CellClock, 0, 2)
	checkEnter(t, two, -1, false)
	checkFence(t, second, -1, false)
	two.Step(m)
	two.Step(m)
	second.Step(m)
	checkEnter(t, one, 1, false)
	checkEnter(t, two, 2, false)
	checkFence(t, first, 1, false)
	checkFence(t, second, 2, false)
	one.Step(m)
	two.Step(m)
	checkAccess(t, first.Step(m), loaded(api.CellSlot, 0, 3))
	checkAccess(t, second.Step(m), loaded(api.CellSlot, 0, 3))
	checkAccess(t, first.Step(m), loaded(api.CellSlot, 1, 4))
	checkFence(t, first, 1, true)
	checkFence(t, second, 2, false)
}

// A world has a thread 0 that fences, other threads that enter and leave again and again, and a clock that grows.
type world struct {
	m      *cells.Mem
	enters []*epoch.Enter // of the threads; nil for one that is idle
	fence  *epoch.Fence
	waits  int
}

func newWorld(t *testing.T, threads int) *world {
	return &world{m: create(t, threads, 0), enters: make([]*epoch.Enter, threads), fence: epoch.NewFence(0, threads)}
}

// pick performs one step: of the fence for 0, of another thread for its number, and of the clock for all others.
func (w *world) pick(thread int) {
	switch {
	case thread == 0:
		if !w.fence.Done() {
			if a := w.fence.Step(w.m); a.Cell == api.CellSlot && a.Got != 0 && word.Snapshot(a.Got) < w.fence.Limit() {
				w.waits++
			}
		}
	case thread >= len(w.enters):
		w.m.Add(api.CellClock, 0, 1)
	case w.enters[thread] == nil:
		w.enters[thread] = epoch.NewEnter(thread)
		w.enters[thread].Step(w.m)
	case w.enters[thread].Done():
		epoch.Leave(w.m, thread)
		w.enters[thread] = nil
	default:
		w.enters[thread].Step(w.m)
	}
}

// check fails the test if the fence is over, and a thread has a snapshot that is older.
func (w *world) check(t *testing.T, picks []int) {
	t.Helper()
	if !w.fence.Done() {
		return
	}
	slots := w.m.Image().Slot
	for thread, e := range w.enters {
		if thread == 0 || e == nil {
			continue
		}
		published := word.State(slots[thread]) == api.SlotActive && word.Snapshot(slots[thread]) < w.fence.Limit()
		if published || e.Snapshot() != -1 && e.Snapshot() < w.fence.Limit() {
			t.Fatalf("picks %v: the fence with the limit %d is over, but thread %d has the snapshot %d and the slot %d", picks, w.fence.Limit(), thread, e.Snapshot(), slots[thread])
		}
	}
}

// run performs picks, with a check after each one.
func run(t *testing.T, threads int, picks []int) *world {
	t.Helper()
	w := newWorld(t, threads)
	for _, p := range picks {
		w.pick(p)
		w.check(t, picks)
	}
	return w
}

// P9.2: all schedules of a fence, a thread and a clock up to a length.
func TestAllSchedules(t *testing.T) {
	const length, choices = 10, 3
	schedules, over, waits := 1, 0, 0
	for range length {
		schedules *= choices
	}
	for number := range schedules {
		picks := make([]int, length)
		for i := range picks {
			picks[i], number = number%choices, number/choices
		}
		w := run(t, choices-1, picks)
		waits += w.waits
		if w.fence.Done() {
			over++
		}
	}
	if over < 1000 || waits < 1000 {
		t.Error("too few fences were over or had to wait:", over, waits)
	}
}

// P9.2: long schedules of more threads.
func TestRandomSchedules(t *testing.T) {
	r := rand.New(rand.NewSource(9))
	over, waits := 0, 0
	for range 3000 {
		threads := 2 + r.Intn(4)
		picks := make([]int, 60)
		for i := range picks {
			picks[i] = r.Intn(threads + 1)
		}
		w := run(t, threads, picks)
		waits += w.waits
		if w.fence.Done() {
			over++
		}
	}
	if over < 1000 || waits < 1000 {
		t.Error("too few fences were over or had to wait:", over, waits)
	}
}

// P9.2: a thread that has loaded the clock before the fence, but published it later, is waited for; one that enters after its slot was loaded is not, and its snapshot is not older.
func TestLateThreads(t *testing.T) {
	slow := run(t, 2, []int{1, 1, 2, 0, 0, 0})
	checkFence(t, slow.fence, 1, false)
	slow.pick(1)
	slow.pick(0)
	checkFence(t, slow.fence, 1, false)
	if slots := slow.m.Image().Slot; !slices.Equal(slots, []uint64{0, 2}) {
		t.Error(slots)
	}
	slow.pick(1)
	slow.pick(0)
	checkFence(t, slow.fence, 1, true)

	late := run(t, 3, []int{3, 0, 0, 1, 2, 2, 2, 0, 1, 1})
	checkFence(t, late.fence, 1, true)
	checkEnter(t, late.enters[1], 1, true)
	checkEnter(t, late.enters[2], 1, true)
}
