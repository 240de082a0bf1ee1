package validator_test

import (
	"math"
	"math/rand"
	"reflect"
	"slices"
	"testing"

	"strongtx/api"
	"strongtx/cells"
	"strongtx/validator"
	"strongtx/word"
)

// orecs is the number of ownership records of the cells of these tests.
const orecs = 5

// noCells are numbers of which no ownership record has one.
var noCells = []int{math.MinInt, math.MinInt + 1, -64, -1, 5, 6, 64, 128, 1 << 32, math.MaxInt - 1, math.MaxInt}

// versions are those with which snapshots are compared.
var versions = []int{0, 1, 2, 3, 4, 63, 64, 65, 1 << 32, api.MaxVersion - 1, api.MaxVersion}

// snapshots are some below, among and above the versions.
var snapshots = append([]int{math.MinInt, math.MinInt + 1, -65, -64, -2, -1, api.MaxVersion + 1, math.MaxInt - 1, math.MaxInt}, versions...)

// create returns cells with five ownership records, some words, blocks and a clock.
func create(t *testing.T) *cells.Mem {
	t.Helper()
	c := api.Config{Words: 4, Orecs: orecs, Base: 2, Count: [api.Classes]int{2}, Reads: 4, Writes: 4, Clock: api.MaxVersion}
	m, e := cells.New(c, 3, []uint64{90, 91, 92, 93})
	if e != api.OK {
		t.Fatal(e)
	}
	for cell, v := range map[int]uint64{api.CellClock: 77, api.CellTicket: 6, api.CellServing: 5} {
		if _, e := m.Store(cell, 0, v); e != api.OK {
			t.Fatal(cell, e)
		}
	}
	return m
}

// put changes ownership records, from the first one on.
func put(t *testing.T, m *cells.Mem, words ...uint64) {
	t.Helper()
	for orec, o := range words {
		change(t, m, orec, o)
	}
}

// change changes one ownership record.
func change(t *testing.T, m *cells.Mem, orec int, o uint64) {
	t.Helper()
	if _, e := m.Store(api.CellOrec, orec, o); e != api.OK {
		t.Fatal(orec, e)
	}
}

// free is the word of a free ownership record.
func free(version int) uint64 {
	return 64 * uint64(version)
}

// held is the word of an ownership record that a thread holds.
func held(version, thread int) uint64 {
	return 64*uint64(version) + uint64(thread) + 1
}

// loaded is the access of a load.
func loaded(orec int, o uint64) api.Access {
	return api.Access{Kind: api.AccLoad, Cell: api.CellOrec, Index: orec, Got: o, Put: o, Done: true}
}

// checkStep performs a step of a machine that has not finished.
func checkStep(t *testing.T, c *validator.Check, m *cells.Mem, want api.Access) {
	t.Helper()
	if c.Done() || c.Failed() {
		t.Fatalf("done %v, failed %v before %v", c.Done(), c.Failed(), want)
	}
	if a := c.Step(m); a != want {
		t.Fatalf("%v, want %v", a, want)
	}
}

// checkFinished checks that a machine has finished, with or without a failure, and that its steps do nothing.
func checkFinished(t *testing.T, c *validator.Check, m *cells.Mem, failed bool) {
	t.Helper()
	before := m.Image()
	for range 3 {
		if !c.Done() || c.Failed() != failed {
			t.Fatalf("done %v, failed %v; want the end with %v", c.Done(), c.Failed(), failed)
		}
		if a := c.Step(m); a != (api.Access{}) {
			t.Fatal(a)
		}
	}
	if after := m.Image(); !reflect.DeepEqual(after, before) {
		t.Fatalf("%v, before %v", after, before)
	}
}

// P16.1: each element is loaded once for each time that it is in the list, in the order of the list; no cell is changed.
func TestOrder(t *testing.T) {
	for _, list := range [][]int{{0}, {4}, {0, 1, 2, 3, 4}, {4, 3, 2, 1, 0}, {2, 0, 4, 1, 3}, {3, 3}, {1, 3, 1, 1, 0, 3}} {
		m := create(t)
		put(t, m, free(8), held(3, 0), free(0), held(api.MaxVersion, 15), free(api.MaxVersion))
		before := m.Image()
		c := validator.New(list, api.MaxVersion)
		for _, orec := range list {
			checkStep(t, c, m, loaded(orec, before.Orec[orec]))
		}
		checkFinished(t, c, m, false)
		if after := m.Image(); !reflect.DeepEqual(after, before) {
			t.Errorf("%v: %v, before %v", list, after, before)
		}
	}
}

// P16.1: as many elements as there may be ownership records, and far more than a read set has.
func TestLongLists(t *testing.T) {
	for _, length := range []int{api.MaxReads, api.MaxOrecs, 1000} {
		m := create(t)
		put(t, m, free(1), free(2), free(3), held(2, 1), held(1, 1))
		list := make([]int, length)
		for i := range list {
			list[i] = i * 3 % orecs
		}
		words := m.Image().Orec
		good, bad := validator.New(list, 3), validator.New(append(list, 2), 2)
		for _, orec := range list {
			checkStep(t, good, m, loaded(orec, words[orec]))
		}
		checkFinished(t, good, m, false)
		k := slices.Index(list, 2)
		for _, orec := range list[:k+1] {
			checkStep(t, bad, m, loaded(orec, words[orec]))
		}
		checkFinished(t, bad, m, true)
	}
}

// P16.1: a version that is greater than the snapshot is a failure, one that is equal is not; it does not matter whether the ownership record is held, and by whom.
func TestVersions(t *testing.T) {
	m := create(t)
	for _, version := range versions {
		words := []uint64{free(version)}
		for thread := range api.MaxThreads {
			words = append(words, held(version, thread))
		}
		for _, o := range words {
			change(t, m, 3, o)
			for _, rv := range snapshots {
				c := validator.New([]int{3}, rv)
				checkStep(t, c, m, loaded(3, o))
				checkFinished(t, c, m, version > rv)
			}
		}
	}
}

// The chapter's example.
func TestExample(t *testing.T) {
	m := create(t)
	o, e := word.Held(2, 1)
	if e != api.OK {
		t.Fatal(e)
	}
	change(t, m, 0, o)
	c := validator.New([]int{0}, 2)
	checkStep(t, c, m, loaded(0, o))
	checkFinished(t, c, m, false)
}

// P16.1: the first failure ends the validation, wherever it is; the elements behind it are not loaded.
func TestFirstFailure(t *testing.T) {
	list := []int{2, 4, 0, 1, 3}
	for first := range list {
		for _, o := range []uint64{free(6), held(6, 0), free(api.MaxVersion), held(api.MaxVersion, 2)} {
			m := create(t)
			put(t, m, free(5), held(5, 1), free(0), held(4, 2), free(1))
			for _, orec := range list[first:] {
				change(t, m, orec, o)
			}
			words := m.Image().Orec
			c := validator.New(list, 5)
			for _, orec := range list[:first+1] {
				checkStep(t, c, m, loaded(orec, words[orec]))
			}
			checkFinished(t, c, m, true)
		}
	}
}

// P16.1: only the elements of the list matter.
func TestOthers(t *testing.T) {
	m := create(t)
	put(t, m, free(9), free(3), held(9, 0), free(2), free(api.MaxVersion))
	c := validator.New([]int{3, 1}, 3)
	checkStep(t, c, m, loaded(3, free(2)))
	checkStep(t, c, m, loaded(1, free(3)))
	checkFinished(t, c, m, false)
}

// P16.1: without elements the machine has finished at once, with success, whatever the snapshot is.
func TestNothing(t *testing.T) {
	m := create(t)
	put(t, m, free(9), held(9, 0), free(9), free(9), free(9))
	for _, rv := range snapshots {
		checkFinished(t, validator.New(nil, rv), m, false)
		checkFinished(t, validator.New([]int{}, rv), m, false)
	}
}

// P16.1: an ownership record counts as it is when it is loaded: not as it was when the machine was made, and not as it becomes later.
func TestChanges(t *testing.T) {
	m := create(t)
	put(t, m, free(1), free(9), free(9), free(1))
	c := validator.New([]int{0, 1, 2, 0}, 4)
	checkStep(t, c, m, loaded(0, free(1)))
	put(t, m, free(9), held(4, 1))
	checkStep(t, c, m, loaded(1, held(4, 1)))
	put(t, m, free(9), free(9), held(2, 0))
	checkStep(t, c, m, loaded(2, held(2, 0)))
	again := validator.New([]int{2, 2, 3}, 4)
	checkStep(t, again, m, loaded(2, held(2, 0)))
	change(t, m, 2, held(5, 0))
	checkStep(t, again, m, loaded(2, held(5, 0)))
	checkFinished(t, again, m, true)
	change(t, m, 0, free(4))
	checkStep(t, c, m, loaded(0, free(4)))
	checkFinished(t, c, m, false)
}

// P16.1: a machine that has finished does nothing and keeps its end, whatever the cells are.
func TestFinished(t *testing.T) {
	m := create(t)
	put(t, m, free(4), free(7))
	good, bad := validator.New([]int{0, 2}, 4), validator.New([]int{0, 1, 2}, 4)
	checkStep(t, good, m, loaded(0, free(4)))
	checkStep(t, good, m, loaded(2, free(0)))
	checkStep(t, bad, m, loaded(0, free(4)))
	checkStep(t, bad, m, loaded(1, free(7)))
	for _, o := range []uint64{free(0), free(4), held(4, 0), free(5), held(9, 1), free(api.MaxVersion)} {
		put(t, m, o, o, o, o, o)
		checkFinished(t, good, m, false)
		checkFinished(t, bad, m, true)
	}
}

// P16.1: the list is neither changed nor kept.
func TestListIsApart(t *testing.T) {
	m := create(t)
	list := make([]int, 3, 8)
	copy(list, []int{2, 0, 2})
	c := validator.New(list, 0)
	if !slices.Equal(list, []int{2, 0, 2}) {
		t.Fatal(list)
	}
	copy(list, []int{4, 4, 4})
	checkStep(t, c, m, loaded(2, 0))
	checkStep(t, c, m, loaded(0, 0))
	checkStep(t, c, m, loaded(2, 0))
	checkFinished(t, c, m, false)
	if !slices.Equal(list[:8], []int{4, 4, 4, 0, 0, 0, 0, 0}) {
		t.Fatal(list[:8])
	}
}

// P16.1 with P9.1's sentence: an ownership record that does not exist is as if it had the version 0, without an access.
func TestNoOrec(t *testing.T) {
	for _, orec := range noCells {
		m := create(t)
		put(t, m, free(2), free(9), free(9), free(9), held(9, 0))
		for _, rv := range []int{2, 8, api.MaxVersion, math.MaxInt} {
			c := validator.New([]int{orec, 0, orec}, rv)
			checkStep(t, c, m, api.Access{})
			checkStep(t, c, m, loaded(0, free(2)))
			checkStep(t, c, m, api.Access{})
			checkFinished(t, c, m, false)
		}
		late := validator.New([]int{orec, 0, orec}, 0)
		checkStep(t, late, m, api.Access{})
		checkStep(t, late, m, loaded(0, free(2)))
		checkFinished(t, late, m, true)
		for _, rv := range []int{-1, -2, math.MinInt} {
			c := validator.New([]int{orec, orec}, rv)
			checkStep(t, c, m, api.Access{})
			checkFinished(t, c, m, true)
		}
	}
}

// P16.1: machines have nothing in common but the cells, and several cells nothing at all.
func TestMachinesAreApart(t *testing.T) {
	here, there := create(t), create(t)
	put(t, there, free(6), free(6))
	list := []int{0, 1}
	one, two, far := validator.New(list, 5), validator.New(list, 3), validator.New(list, 6)
	checkStep(t, one, here, loaded(0, 0))
	checkStep(t, far, there, loaded(0, free(6)))
	change(t, here, 0, free(4))
	checkStep(t, two, here, loaded(0, free(4)))
	checkFinished(t, two, here, true)
	checkStep(t, one, here, loaded(1, 0))
	checkFinished(t, one, here, false)
	checkStep(t, far, there, loaded(1, free(6)))
	checkFinished(t, far, there, false)
}

// A reader validates a list with a snapshot, again and again; it takes the clock as its snapshot before every other validation.
type reader struct {
	list  []int
	rv    int
	made  int // the validations so far
	check *validator.Check
	start []uint64 // the ownership records before the first step of the validation
	held  bool     // a record was held when it was loaded
}

// A writer acquires ownership records of its list, one after another, each as soon as it is free; then it releases each one, with a new version or, every third time, as it was.
type writer struct {
	list     []int
	next     int  // the index in the list
	releases bool // the records of the list are being released
	turns    int  // how often all records were released
}

// A world has readers and writers with the same cells. Its versions never decrease.
type world struct {
	m       *cells.Mem
	readers []*reader
	writers []*writer
	seen    counts
}

// counts tells how validations have ended.
type counts struct {
	held   int // validations that succeeded and loaded a record that was held
	behind int // validations that succeeded and at whose end a record had a greater version
	bad    int // validations that failed
	ahead  int // among these, validations at whose beginning no record had a greater version
}

func (c *counts) add(other counts) {
	c.held += other.held
	c.behind += other.behind
	c.bad += other.bad
	c.ahead += other.ahead
}

func newWorld(t *testing.T, readers, writers [][]int) *world {
	t.Helper()
	w := &world{m: create(t)}
	if _, e := w.m.Store(api.CellClock, 0, 0); e != api.OK {
		t.Fatal(e)
	}
	for _, list := range readers {
		w.readers = append(w.readers, &reader{list: list})
	}
	for _, list := range writers {
		w.writers = append(w.writers, &writer{list: list})
	}
	return w
}

// read performs one step of a reader: it begins a validation, or it is one of the machine.
func (w *world) read(t *testing.T, r *reader, picks []int) {
	t.Helper()
	now := w.m.Image()
	if r.check == nil {
		if r.made%2 == 0 {
			r.rv = int(now.Clock)
		}
		r.made++
		r.check, r.start, r.held = validator.New(r.list, r.rv), nil, false
		return
	}
	if r.start == nil {
		r.start = now.Orec
	}
	a := r.check.Step(w.m)
	r.held = r.held || word.Holder(a.Got) >= 0
	if r.check.Done() {
		w.end(t, r, now.Orec, picks)
		r.check = nil
	}
}

// end fails the test if a validation that has succeeded had a record with a greater version at its beginning, or one that has failed has none now.
func (w *world) end(t *testing.T, r *reader, now []uint64, picks []int) {
	t.Helper()
	early, late := newer(r.start, r.list, r.rv), newer(now, r.list, r.rv)
	switch failed := r.check.Failed(); {
	case !failed && early:
		t.Fatalf("picks %v: %v is valid with the snapshot %d, and was %v at the beginning", picks, r.list, r.rv, r.start)
	case failed && !late:
		t.Fatalf("picks %v: %v is not valid with the snapshot %d, and is %v", picks, r.list, r.rv, now)
	case !failed:
		w.seen.held += one(r.held)
		w.seen.behind += one(late)
	default:
		w.seen.bad++
		w.seen.ahead += one(!early)
	}
}

// newer reports whether a record of the list has a greater version than the snapshot.
func newer(words []uint64, list []int, rv int) bool {
	return slices.ContainsFunc(list, func(orec int) bool { return word.Version(words[orec]) > rv })
}

func one(b bool) int {
	if b {
		return 1
	}
	return 0
}

// write performs one step of a writer.
func (w *world) write(x *writer, thread int) {
	orec := x.list[x.next]
	now := w.m.Image()
	o := now.Orec[orec]
	switch {
	case !x.releases && word.Holder(o) >= 0:
		return
	case !x.releases:
		w.m.Swap(api.CellOrec, orec, o, held(word.Version(o), thread))
	case x.turns%3 == 2:
		w.m.Store(api.CellOrec, orec, free(word.Version(o)))
	default:
		w.m.Store(api.CellOrec, orec, free(int(now.Clock)+1))
		// Only the last release is followed by the clock, so that a snapshot may be older than some records of a writer.
		w.m.Add(api.CellClock, 0, uint64(one(x.next+1 == len(x.list))))
	}
	x.next++
	if x.next == len(x.list) {
		x.next = 0
		x.turns += one(x.releases)
		x.releases = !x.releases
	}
}

// run performs picks of a reader or, for the numbers that follow, of a writer. It returns how the validations have ended.
func run(t *testing.T, readers, writers [][]int, picks []int) counts {
	t.Helper()
	w := newWorld(t, readers, writers)
	for _, p := range picks {
		if p < len(readers) {
			w.read(t, w.readers[p], picks)
			continue
		}
		w.write(w.writers[p-len(readers)], p-len(readers))
	}
	return w.seen
}

// P16.2: all schedules of some readers and writers up to a length.
func TestAllSchedules(t *testing.T) {
	var sum counts
	for _, x := range []struct {
		readers, writers [][]int
		length           int
	}{
		{[][]int{{0}}, [][]int{{0}}, 13},
		{[][]int{{0, 1}}, [][]int{{1, 0}}, 13},
		{[][]int{{1, 0, 1}}, [][]int{{0, 1}}, 13},
		{[][]int{{2, 0}}, [][]int{{0}, {2}}, 9},
		{[][]int{{0, 1, 2}}, [][]int{{2, 1}, {0}}, 9},
		{[][]int{{0, 1}, {1, 0}}, [][]int{{0}}, 9},
	} {
		actors := len(x.readers) + len(x.writers)
		schedules := 1
		for range x.length {
			schedules *= actors
		}
		picks := make([]int, x.length)
		for number := range schedules {
			for i := range picks {
				picks[i], number = number%actors, number/actors
			}
			sum.add(run(t, x.readers, x.writers, picks))
		}
	}
	if sum.held < 1000 || sum.behind < 1000 || sum.bad < 1000 || sum.ahead < 1000 {
		t.Errorf("too little has happened: %+v", sum)
	}
}

// P16.2: long schedules of more readers and writers.
func TestRandomSchedules(t *testing.T) {
	r := rand.New(rand.NewSource(16))
	readers := [][]int{{0, 1, 2, 3, 4}, {4, 2, 0}, {3}, {1, 3, 1, 0}, {2, 2}}
	writers := [][]int{{0, 2}, {1, 3, 4}, {4}}
	var sum counts
	for range 1000 {
		picks := make([]int, 300)
		for i := range picks {
			picks[i] = r.Intn(len(readers) + len(writers))
		}
		sum.add(run(t, readers, writers, picks))
	}
	if sum.held < 1000 || sum.behind < 1000 || sum.bad < 1000 || sum.ahead < 1000 {
		t.Errorf("too little has happened: %+v", sum)
	}
}
