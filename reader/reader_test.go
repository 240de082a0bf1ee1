package reader_test

import (
	"math"
	"math/rand"
	"reflect"
	"slices"
	"testing"

	"strongtx/api"
	"strongtx/cells"
	"strongtx/reader"
	"strongtx/word"
)

// noCells are numbers of which no cell of these tests has one as its index.
var noCells = []int{math.MinInt, math.MinInt + 1, -64, -1, 64, 128, 1 << 32, math.MaxInt - 1, math.MaxInt}

// create returns cells with the words 90, 91, 92 and 93, the state words 100 and 101, four ownership records, and a clock.
func create(t *testing.T) *cells.Mem {
	t.Helper()
	c := api.Config{Words: 4, Orecs: 4, Base: 2, Count: [api.Classes]int{2}, Reads: 4, Writes: 4, Clock: api.MaxVersion}
	m, e := cells.New(c, 3, []uint64{90, 91, 92, 93})
	if e != api.OK {
		t.Fatal(e)
	}
	put(t, m, api.CellData, 4, 100)
	put(t, m, api.CellData, 5, 101)
	put(t, m, api.CellClock, 0, 77)
	return m
}

func put(t *testing.T, m *cells.Mem, cell, index int, v uint64) {
	t.Helper()
	if _, e := m.Store(cell, index, v); e != api.OK {
		t.Fatal(cell, index, e)
	}
}

// free is the word of a free ownership record.
func free(t *testing.T, version int) uint64 {
	t.Helper()
	o, e := word.Free(version)
	if e != api.OK {
		t.Fatal(version, e)
	}
	return o
}

// held is the word of an ownership record that a thread holds.
func held(t *testing.T, version, thread int) uint64 {
	t.Helper()
	o, e := word.Held(version, thread)
	if e != api.OK {
		t.Fatal(version, thread, e)
	}
	return o
}

// loaded is the access of a load.
func loaded(cell, index int, v uint64) api.Access {
	return api.Access{Kind: api.AccLoad, Cell: cell, Index: index, Got: v, Put: v, Done: true}
}

func checkAccess(t *testing.T, got, want api.Access) {
	t.Helper()
	if got != want {
		t.Fatalf("%v, want %v", got, want)
	}
}

// checkReading checks a machine that has not finished.
func checkReading(t *testing.T, r *reader.Read) {
	t.Helper()
	if r.Done() || r.Conflict() || r.Value() != 0 {
		t.Fatalf("done %v, conflict %v, value %d; want none of them", r.Done(), r.Conflict(), r.Value())
	}
}

// checkConflict checks a machine that has finished with a conflict.
func checkConflict(t *testing.T, r *reader.Read) {
	t.Helper()
	if !r.Done() || !r.Conflict() || r.Value() != 0 {
		t.Fatalf("done %v, conflict %v, value %d; want a conflict", r.Done(), r.Conflict(), r.Value())
	}
}

// checkValue checks a machine that has finished with a value.
func checkValue(t *testing.T, r *reader.Read, value uint64) {
	t.Helper()
	if !r.Done() || r.Conflict() || r.Value() != value {
		t.Fatalf("done %v, conflict %v, value %d; want the value %d", r.Done(), r.Conflict(), r.Value(), value)
	}
}

// begin returns a machine that has loaded the ownership record, and the word if the second argument says so.
func begin(t *testing.T, m *cells.Mem, addr, orec, rv int, data bool) *reader.Read {
	t.Helper()
	r := reader.New(addr, orec, rv)
	r.Step(m)
	if data {
		r.Step(m)
	}
	checkReading(t, r)
	return r
}

// P14.1: the operations of a machine that reads a word, with any ownership record; no cell is changed.
func TestRead(t *testing.T) {
	m := create(t)
	for orec, version := range []int{0, 3, 8, api.MaxVersion} {
		put(t, m, api.CellOrec, orec, free(t, version))
	}
	before := m.Image()
	for addr, value := range []uint64{90, 91, 92, 93, 100, 101} {
		for orec, o := range before.Orec {
			r := reader.New(addr, orec, api.MaxVersion)
			checkReading(t, r)
			checkAccess(t, r.Step(m), loaded(api.CellOrec, orec, o))
			checkReading(t, r)
			checkAccess(t, r.Step(m), loaded(api.CellData, addr, value))
			checkReading(t, r)
			checkAccess(t, r.Step(m), loaded(api.CellOrec, orec, o))
			checkValue(t, r, value)
		}
	}
	if after := m.Image(); !reflect.DeepEqual(after, before) {
		t.Errorf("%v, before %v", after, before)
	}
}

// P14.1: a value is a word of any 64 bits, also 0.
func TestValues(t *testing.T) {
	m := create(t)
	for _, value := range []uint64{0, 1, 64, math.MaxInt64, 1 << 63, math.MaxUint64} {
		put(t, m, api.CellData, 1, value)
		r := begin(t, m, 1, 1, 0, false)
		checkAccess(t, r.Step(m), loaded(api.CellData, 1, value))
		checkReading(t, r)
		r.Step(m)
		checkValue(t, r, value)
	}
}

// P14.1: a version that is greater than the snapshot is a conflict, one that is equal is not.
func TestVersions(t *testing.T) {
	versions := []int{0, 1, 2, 3, 4, 63, 64, 1 << 32, api.MaxVersion - 1, api.MaxVersion}
	snapshots := append([]int{math.MinInt, -65, -2, -1, api.MaxVersion + 1, math.MaxInt}, versions...)
	m := create(t)
	for _, version := range versions {
		o := free(t, version)
		put(t, m, api.CellOrec, 2, o)
		for _, rv := range snapshots {
			r := reader.New(3, 2, rv)
			checkAccess(t, r.Step(m), loaded(api.CellOrec, 2, o))
			if version > rv {
				checkConflict(t, r)
				continue
			}
			checkReading(t, r)
			r.Step(m)
			r.Step(m)
			checkValue(t, r, 93)
		}
	}
}

// The chapter's example.
func TestExample(t *testing.T) {
	m := create(t)
	put(t, m, api.CellOrec, 1, free(t, 3))
	r := reader.New(1, 1, 2)
	checkAccess(t, r.Step(m), loaded(api.CellOrec, 1, 192))
	checkConflict(t, r)
}

// P14.1: an ownership record that is held is a conflict at once, whoever holds it and whatever its version is.
func TestHeld(t *testing.T) {
	m := create(t)
	for thread := range api.MaxThreads {
		for _, version := range []int{0, 1, 4, 5, 6, api.MaxVersion} {
			o := held(t, version, thread)
			put(t, m, api.CellOrec, 3, o)
			r := reader.New(3, 3, 5)
			checkAccess(t, r.Step(m), loaded(api.CellOrec, 3, o))
			checkConflict(t, r)
		}
	}
}

// P14.1: an ownership record that is another word at its second load is a conflict, also if its version is the same or not greater than the snapshot; it does not matter before or after which step it was changed.
func TestChanged(t *testing.T) {
	m := create(t)
	first := free(t, 4)
	for _, second := range []uint64{free(t, 0), free(t, 3), free(t, 5), free(t, 7), free(t, 8), free(t, api.MaxVersion), held(t, 3, 0), held(t, 4, 0), held(t, 4, 1), held(t, 4, 15), held(t, 9, 2)} {
		for _, data := range []bool{false, true} {
			put(t, m, api.CellOrec, 0, first)
			r := begin(t, m, 2, 0, 7, data)
			put(t, m, api.CellOrec, 0, second)
			if !data {
				checkAccess(t, r.Step(m), loaded(api.CellData, 2, 92))
				checkReading(t, r)
			}
			checkAccess(t, r.Step(m), loaded(api.CellOrec, 0, second))
			checkConflict(t, r)
		}
	}
}

// P14.1: only the two loads of the ownership record are compared: what it was in between, and what others are, does not matter.
func TestChangedBack(t *testing.T) {
	m := create(t)
	put(t, m, api.CellOrec, 0, free(t, 4))
	r := begin(t, m, 2, 0, 7, false)
	put(t, m, api.CellOrec, 0, held(t, 4, 1))
	put(t, m, api.CellOrec, 1, held(t, 4, 1))
	put(t, m, api.CellOrec, 2, free(t, 8))
	r.Step(m)
	put(t, m, api.CellOrec, 0, free(t, 4))
	checkAccess(t, r.Step(m), loaded(api.CellOrec, 0, free(t, 4)))
	checkValue(t, r, 92)
}

// P14.1: the value is that of the word at its only load.
func TestValueIsLoadedOnce(t *testing.T) {
	m := create(t)
	r := reader.New(0, 0, 0)
	for _, x := range []struct{ before, cell, got int }{{1, api.CellOrec, 0}, {2, api.CellData, 2}, {3, api.CellOrec, 0}} {
		put(t, m, api.CellData, 0, uint64(x.before))
		checkAccess(t, r.Step(m), loaded(x.cell, 0, uint64(x.got)))
	}
	put(t, m, api.CellData, 0, 4)
	checkValue(t, r, 2)
}

// P14.1: a machine that has finished does nothing, whatever the cells are.
func TestFinished(t *testing.T) {
	m := create(t)
	put(t, m, api.CellOrec, 1, held(t, 0, 2))
	good, early, late := begin(t, m, 0, 0, 0, true), reader.New(1, 1, 0), begin(t, m, 2, 2, 0, true)
	good.Step(m)
	early.Step(m)
	put(t, m, api.CellOrec, 2, held(t, 0, 1))
	late.Step(m)
	for _, o := range []uint64{0, held(t, 0, 0), free(t, 1)} {
		for i := range 4 {
			put(t, m, api.CellOrec, i, o)
			put(t, m, api.CellData, i, o+5)
		}
		before := m.Image()
		for range 4 {
			checkAccess(t, good.Step(m), api.Access{})
			checkValue(t, good, 90)
			checkAccess(t, early.Step(m), api.Access{})
			checkConflict(t, early)
			checkAccess(t, late.Step(m), api.Access{})
			checkConflict(t, late)
		}
		if after := m.Image(); !reflect.DeepEqual(after, before) {
			t.Fatalf("%v, before %v", after, before)
		}
	}
}

// P14.1 with P9.1's sentence: a word that does not exist is read as 0, without an access.
func TestNoWord(t *testing.T) {
	for _, addr := range append([]int{6, 7}, noCells...) {
		m := create(t)
		put(t, m, api.CellOrec, 1, free(t, 2))
		r := begin(t, m, addr, 1, 2, false)
		checkAccess(t, r.Step(m), api.Access{})
		checkReading(t, r)
		checkAccess(t, r.Step(m), loaded(api.CellOrec, 1, free(t, 2)))
		checkValue(t, r, 0)

		late := begin(t, m, addr, 1, 2, true)
		put(t, m, api.CellOrec, 1, free(t, 3))
		checkAccess(t, late.Step(m), loaded(api.CellOrec, 1, free(t, 3)))
		checkConflict(t, late)
	}
}

// P14.1 with P9.1's sentence: an ownership record that does not exist is as if it were free with the version 0.
func TestNoOrec(t *testing.T) {
	for _, orec := range append([]int{4, 5}, noCells...) {
		m := create(t)
		for _, rv := range []int{0, 1, api.MaxVersion, math.MaxInt} {
			r := reader.New(1, orec, rv)
			checkAccess(t, r.Step(m), api.Access{})
			checkReading(t, r)
			checkAccess(t, r.Step(m), loaded(api.CellData, 1, 91))
			checkReading(t, r)
			checkAccess(t, r.Step(m), api.Access{})
			checkValue(t, r, 91)
		}
		for _, rv := range []int{-1, -2, math.MinInt} {
			r := reader.New(1, orec, rv)
			checkAccess(t, r.Step(m), api.Access{})
			checkConflict(t, r)
			checkAccess(t, r.Step(m), api.Access{})
		}
	}
}

// P14.1: machines have nothing in common but the cells, and several cells nothing at all.
func TestMachinesAreApart(t *testing.T) {
	here, there := create(t), create(t)
	put(t, there, api.CellData, 0, 55)
	put(t, there, api.CellOrec, 0, free(t, 6))
	one, two, far := reader.New(0, 0, 6), reader.New(0, 0, 3), reader.New(0, 0, 6)
	one.Step(here)
	checkReading(t, two)
	checkAccess(t, far.Step(there), loaded(api.CellOrec, 0, free(t, 6)))
	put(t, here, api.CellOrec, 0, free(t, 4))
	checkAccess(t, two.Step(here), loaded(api.CellOrec, 0, free(t, 4)))
	checkConflict(t, two)
	checkReading(t, one)
	checkAccess(t, far.Step(there), loaded(api.CellData, 0, 55))
	one.Step(here)
	one.Step(here)
	checkConflict(t, one)
	checkReading(t, far)
	far.Step(there)
	checkValue(t, far, 55)
}

// A scan takes a snapshot and reads words with it, one after another, up to a conflict or their end; then it begins again.
type scan struct {
	addrs    []int
	next     int // the index of the address that is read; none without a snapshot
	rv       int
	snapshot []uint64 // the words when the snapshot was taken
	read     *reader.Read
	steps    int // of the read
}

// none is the index of no address.
const none = -1

// A writer acquires an ownership record, writes words of it, releases it with a new version, and stamps the clock; without words it gives up and releases it as it was. Then it begins again.
type writer struct {
	orec    int
	addrs   []int
	written int
	old     uint64 // the word that the ownership record had
	version int    // with which it was released
	step    func(w *world, x *writer, thread int)
}

// A world has readers and writers of words; the even ones belong to the ownership record 0, and the odd ones to 1.
type world struct {
	m       *cells.Mem
	scans   []*scan
	writers []*writer
	stored  uint64 // the last value that was written: each one is new
	seen    counts
}

// counts tells what readers have met.
type counts struct {
	written int // values that a writer had written
	behind  int // values that were read though memory was not that of the snapshot any more
	early   int // conflicts at the first load of an ownership record
	late    int // conflicts at the second one
}

func (c *counts) add(other counts) {
	c.written += other.written
	c.behind += other.behind
	c.early += other.early
	c.late += other.late
}

// newWorld returns a world with readers of these words and writers of those; a writer without words is one of the ownership record 0.
func newWorld(t *testing.T, scans, writers [][]int) *world {
	t.Helper()
	w := &world{m: create(t), stored: 1000}
	put(t, w.m, api.CellClock, 0, 0)
	for _, addrs := range scans {
		w.scans = append(w.scans, &scan{addrs: addrs, next: none})
	}
	for _, addrs := range writers {
		x := &writer{addrs: addrs, step: (*world).acquire}
		if len(addrs) > 0 {
			x.orec = addrs[0] % 2
		}
		w.writers = append(w.writers, x)
	}
	return w
}

// acquire swaps the ownership record to a held one; it is tried again as long as another writer holds it.
func (w *world) acquire(x *writer, thread int) {
	x.old = w.m.Image().Orec[x.orec]
	if word.Holder(x.old) >= 0 {
		return
	}
	o, _ := word.Held(word.Version(x.old), thread)
	w.m.Swap(api.CellOrec, x.orec, x.old, o)
	x.written = 0
	x.step = (*world).write
	if len(x.addrs) == 0 {
		x.step = (*world).giveUp
	}
}

func (w *world) write(x *writer, thread int) {
	w.stored++
	w.m.Store(api.CellData, x.addrs[x.written], w.stored)
	x.written++
	if x.written == len(x.addrs) {
		x.step = (*world).release
	}
}

// release takes a version that is greater than the clock, and so greater than every snapshot that was taken before.
func (w *world) release(x *writer, thread int) {
	x.version = int(w.m.Image().Clock) + 1
	o, _ := word.Free(x.version)
	w.m.Store(api.CellOrec, x.orec, o)
	x.step = (*world).stamp
}

// stamp lets the clock follow, if no other writer has done so.
func (w *world) stamp(x *writer, thread int) {
	w.m.Store(api.CellClock, 0, max(w.m.Image().Clock, uint64(x.version)))
	x.step = (*world).acquire
}

func (w *world) giveUp(x *writer, thread int) {
	w.m.Store(api.CellOrec, x.orec, x.old)
	x.step = (*world).acquire
}

// advance performs one step of a reader: it takes the snapshot, or it is one of the read.
func (w *world) advance(t *testing.T, s *scan, picks []int) {
	t.Helper()
	now := w.m.Image()
	if s.next == none {
		s.rv, s.snapshot = int(now.Clock), now.Data
		s.begin(0)
		return
	}
	s.read.Step(w.m)
	s.steps++
	if !s.read.Done() {
		return
	}
	w.check(t, s, now.Data, picks)
	if s.read.Conflict() {
		s.next = none
		return
	}
	s.begin(s.next + 1)
}

// begin goes on with the address of an index, if there is one.
func (s *scan) begin(next int) {
	s.next = none
	if next < len(s.addrs) {
		s.next, s.steps = next, 0
		s.read = reader.New(s.addrs[next], s.addrs[next]%2, s.rv)
	}
}

// check fails the test if a read without a conflict has another value than the word had at the snapshot, or has now.
func (w *world) check(t *testing.T, s *scan, now []uint64, picks []int) {
	t.Helper()
	addr, value := s.addrs[s.next], s.read.Value()
	switch {
	case s.read.Conflict() && s.steps == 1:
		w.seen.early++
	case s.read.Conflict():
		w.seen.late++
	case value != s.snapshot[addr] || value != now[addr]:
		t.Fatalf("picks %v: word %d is read as %d with the snapshot %d; it was %d then, and is %d now", picks, addr, value, s.rv, s.snapshot[addr], now[addr])
	default:
		if value > 1000 {
			w.seen.written++
		}
		if !slices.Equal(s.snapshot, now) {
			w.seen.behind++
		}
	}
}

// run performs picks of a reader or, for the numbers that follow, of a writer. It returns what the readers have met.
func run(t *testing.T, scans, writers [][]int, picks []int) counts {
	t.Helper()
	w := newWorld(t, scans, writers)
	for _, p := range picks {
		if p < len(scans) {
			w.advance(t, w.scans[p], picks)
			continue
		}
		x := w.writers[p-len(scans)]
		x.step(w, x, p-len(scans))
	}
	return w.seen
}

// P14.2: all schedules of some readers and writers up to a length.
func TestAllSchedules(t *testing.T) {
	var sum counts
	for _, x := range []struct {
		scans, writers [][]int
		length         int
	}{
		{[][]int{{0}}, [][]int{{0}}, 15},
		{[][]int{{0, 2}}, [][]int{{2, 0}}, 15},
		{[][]int{{0, 1}}, [][]int{{1}}, 15},
		{[][]int{{0}}, [][]int{{}}, 12},
		{[][]int{{0}}, [][]int{{0}, {}}, 10},
		{[][]int{{2, 1}}, [][]int{{2}, {1}}, 10},
		{[][]int{{0, 0}}, [][]int{{0}, {0, 2}}, 10},
		{[][]int{{0}, {2, 0}}, [][]int{{0, 2}}, 10},
	} {
		actors := len(x.scans) + len(x.writers)
		schedules := 1
		for range x.length {
			schedules *= actors
		}
		picks := make([]int, x.length)
		for number := range schedules {
			for i := range picks {
				picks[i], number = number%actors, number/actors
			}
			sum.add(run(t, x.scans, x.writers, picks))
		}
	}
	if sum.written < 1000 || sum.behind < 10000 || sum.early < 10000 || sum.late < 10000 {
		t.Errorf("too little has happened: %+v", sum)
	}
}

// P14.2: long schedules of more readers and writers.
func TestRandomSchedules(t *testing.T) {
	r := rand.New(rand.NewSource(14))
	scans := [][]int{{0}, {3, 1, 2, 0}, {2, 0, 2}, {1, 1, 1, 3}}
	writers := [][]int{{0, 2}, {3}, {1, 3, 1}, {}}
	var sum counts
	for range 5000 {
		picks := make([]int, 300)
		for i := range picks {
			picks[i] = r.Intn(len(scans) + len(writers))
		}
		sum.add(run(t, scans, writers, picks))
	}
	if sum.written < 1000 || sum.behind < 1000 || sum.early < 1000 || sum.late < 1000 {
		t.Errorf("too little has happened: %+v", sum)
	}
}
