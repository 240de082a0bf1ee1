package locker_test

import (
	"math"
	"math/rand"
	"reflect"
	"slices"
	"testing"

	"strongtx/api"
	"strongtx/cells"
	"strongtx/locker"
	"strongtx/word"
)

// orecs is the number of ownership records of the cells of these tests.
const orecs = 6

// noCells are numbers of which no ownership record has one.
var noCells = []int{math.MinInt, math.MinInt + 1, -64, -1, 6, 7, 64, 128, 1 << 32, math.MaxInt - 1, math.MaxInt}

// create returns cells with six ownership records, some words, blocks and a clock.
func create(t *testing.T) *cells.Mem {
	t.Helper()
	c := api.Config{Words: 4, Orecs: orecs, Base: 2, Count: [api.Classes]int{2}, Reads: 4, Writes: 4, Clock: api.MaxVersion}
	m, e := cells.New(c, 3, []uint64{90, 91, 92, 93})
	if e != api.OK {
		t.Fatal(e)
	}
	for cell, v := range map[int]uint64{api.CellClock: 77, api.CellTicket: 6, api.CellServing: 5} {
		if _, e := m.Store(cell, 0, v); e != api.OK {
			t.Fatal(cell, e)
		}
	}
	return m
}

// put changes ownership records, from the first one on.
func put(t *testing.T, m *cells.Mem, words ...uint64) {
	t.Helper()
	for orec, o := range words {
		change(t, m, orec, o)
	}
}

// change changes one ownership record.
func change(t *testing.T, m *cells.Mem, orec int, o uint64) {
	t.Helper()
	if _, e := m.Store(api.CellOrec, orec, o); e != api.OK {
		t.Fatal(orec, e)
	}
}

// free is the word of a free ownership record.
func free(version int) uint64 {
	return 64 * uint64(version)
}

// held is the word of an ownership record that a thread holds.
func held(version, thread int) uint64 {
	return 64*uint64(version) + uint64(thread) + 1
}

// loaded is the access of a load.
func loaded(orec int, o uint64) api.Access {
	return api.Access{Kind: api.AccLoad, Cell: api.CellOrec, Index: orec, Got: o, Put: o, Done: true}
}

// swapped is the access of a swap that is done.
func swapped(orec int, got, put uint64) api.Access {
	return api.Access{Kind: api.AccSwap, Cell: api.CellOrec, Index: orec, Got: got, Put: put, Done: true}
}

// failed is the access of a swap that found another word.
func failed(orec int, got uint64) api.Access {
	return api.Access{Kind: api.AccSwap, Cell: api.CellOrec, Index: orec, Got: got, Put: got}
}

// stored is the access of a store.
func stored(orec int, got, put uint64) api.Access {
	return api.Access{Kind: api.AccStore, Cell: api.CellOrec, Index: orec, Got: got, Put: put, Done: true}
}

// A machine is a Lock or a Release.
type machine interface {
	Step(m *cells.Mem) api.Access
	Done() bool
}

// checkStep performs a step that the machine does not finish before.
func checkStep(t *testing.T, x machine, m *cells.Mem, want api.Access) {
	t.Helper()
	if x.Done() {
		t.Fatal("done before", want)
	}
	if a := x.Step(m); a != want {
		t.Fatalf("%v, want %v", a, want)
	}
}

// checkFinished checks that a machine has finished, and that its steps do nothing.
func checkFinished(t *testing.T, x machine, m *cells.Mem) {
	t.Helper()
	before := m.Image()
	for range 3 {
		if !x.Done() {
			t.Fatal("not done")
		}
		if a := x.Step(m); a != (api.Access{}) {
			t.Fatal(a)
		}
	}
	if after := m.Image(); !reflect.DeepEqual(after, before) {
		t.Fatalf("%v, before %v", after, before)
	}
}

// complete performs all steps of a machine; there are at most as many as given.
func complete(t *testing.T, x machine, m *cells.Mem, most int) {
	t.Helper()
	for range most {
		x.Step(m)
	}
	checkFinished(t, x, m)
}

func checkOld(t *testing.T, l *locker.Lock, want ...uint64) {
	t.Helper()
	if old := l.Old(); !slices.Equal(old, want) {
		t.Fatalf("%v, want %v", old, want)
	}
}

// checkOrecs checks that all cells are those of create, but for the ownership records.
func checkOrecs(t *testing.T, m *cells.Mem, want ...uint64) {
	t.Helper()
	image := create(t).Image()
	copy(image.Orec, want)
	if i := m.Image(); !reflect.DeepEqual(i, image) {
		t.Fatalf("%v, want %v", i, image)
	}
}

// P15.1: lists in any order, with and without elements that occur several times.
func TestSorted(t *testing.T) {
	for _, x := range []struct{ orecs, want []int }{
		{nil, nil},
		{[]int{}, nil},
		{[]int{5}, []int{5}},
		{[]int{3, 1, 3}, []int{1, 3}},
		{[]int{0, 1, 2, 3}, []int{0, 1, 2, 3}},
		{[]int{3, 2, 1, 0}, []int{0, 1, 2, 3}},
		{[]int{7, 7, 7, 7}, []int{7}},
		{[]int{10, 9, 2, 10, 63, 2}, []int{2, 9, 10, 63}},
		{[]int{1, -1, 0, 64, -1, -64}, []int{-64, -1, 0, 1, 64}},
		{[]int{math.MaxInt, math.MinInt, 0, math.MaxInt, math.MinInt + 1, math.MinInt}, []int{math.MinInt, math.MinInt + 1, 0, math.MaxInt}},
	} {
		before := slices.Clone(x.orecs)
		if sorted := locker.Sorted(x.orecs); !slices.Equal(sorted, x.want) {
			t.Errorf("%v: %v, want %v", before, sorted, x.want)
		}
		if !slices.Equal(x.orecs, before) {
			t.Errorf("%v has become %v", before, x.orecs)
		}
	}
}

// P15.1: any lists of some numbers, and a result that is new also if nothing had to be moved or dropped.
func TestSortedOfMany(t *testing.T) {
	r := rand.New(rand.NewSource(14))
	for range 2000 {
		var list, want []int
		for range r.Intn(40) {
			list = append(list, r.Intn(20)-4)
		}
		for n := -4; n < 16; n++ {
			if slices.Contains(list, n) {
				want = append(want, n)
			}
		}
		if sorted := locker.Sorted(list); !slices.Equal(sorted, want) {
			t.Fatalf("%v: %v, want %v", list, sorted, want)
		}
		again := locker.Sorted(want)
		for i := range again {
			again[i] = 77
		}
		if slices.Contains(want, 77) {
			t.Fatal("the result shares memory with the argument")
		}
	}
}

// The chapter's example.
func TestExample(t *testing.T) {
	m := create(t)
	l := locker.NewLock(0, []int{3, 1, 3})
	checkStep(t, l, m, loaded(1, 0))
	checkStep(t, l, m, swapped(1, 0, 1))
	checkStep(t, l, m, loaded(3, 0))
	checkStep(t, l, m, swapped(3, 0, 1))
	checkFinished(t, l, m)
	checkOrecs(t, m, 0, 1, 0, 1)
}

// P15.1: the operations of a machine that locks, and the words that the locked ownership records had.
func TestLock(t *testing.T) {
	m := create(t)
	put(t, m, free(4), free(9), free(0), free(api.MaxVersion), free(9), free(1))
	l := locker.NewLock(2, []int{5, 0, 4, 3, 0, 5})
	var old []uint64
	for _, x := range []struct{ orec, version int }{{0, 4}, {3, api.MaxVersion}, {4, 9}, {5, 1}} {
		checkOld(t, l, old...)
		checkStep(t, l, m, loaded(x.orec, free(x.version)))
		checkOld(t, l, old...)
		checkStep(t, l, m, swapped(x.orec, free(x.version), held(x.version, 2)))
		old = append(old, free(x.version))
	}
	checkFinished(t, l, m)
	checkOld(t, l, old...)
	checkOrecs(t, m, held(4, 2), free(9), free(0), held(api.MaxVersion, 2), held(9, 2), held(1, 2))
}

// P15.1: each thread locks with the version that it has found.
func TestThreads(t *testing.T) {
	for thread := range api.MaxThreads {
		for _, version := range []int{0, 1, 63, 64, 1 << 32, api.MaxVersion - 1, api.MaxVersion} {
			m := create(t)
			put(t, m, free(version))
			l := locker.NewLock(thread, []int{0})
			checkStep(t, l, m, loaded(0, free(version)))
			checkStep(t, l, m, swapped(0, free(version), held(version, thread)))
			checkFinished(t, l, m)
			checkOld(t, l, free(version))
			o := m.Image().Orec[0]
			if word.Version(o) != version || word.Holder(o) != thread {
				t.Fatal(thread, version, o)
			}
		}
	}
}

// P15.1: machines without anything to do.
func TestNothing(t *testing.T) {
	m := create(t)
	for _, list := range [][]int{nil, {}} {
		l := locker.NewLock(1, list)
		checkFinished(t, l, m)
		checkOld(t, l)
	}
	checkFinished(t, locker.NewRelease(nil, nil), m)
	checkFinished(t, locker.NewRelease([]int{}, []uint64{}), m)
	checkFinished(t, locker.NewRelease([]int{1, 2}, nil), m)
	checkFinished(t, locker.NewRelease(nil, []uint64{3, 4}), m)
	checkOrecs(t, m)
}

// P15.1: an ownership record that is held is loaded again, whoever holds it, until it is free; the others are left alone.
func TestWait(t *testing.T) {
	m := create(t)
	put(t, m, free(2), held(3, 0), free(5))
	l := locker.NewLock(1, []int{2, 1, 0})
	checkStep(t, l, m, loaded(0, free(2)))
	checkStep(t, l, m, swapped(0, free(2), held(2, 1)))
	for _, o := range []uint64{held(3, 0), held(3, 0), held(3, 2), held(0, 15), held(api.MaxVersion, 2), held(6, 1)} {
		change(t, m, 1, o)
		for range 3 {
			checkStep(t, l, m, loaded(1, o))
			checkOld(t, l, free(2))
			checkOrecs(t, m, held(2, 1), o, free(5))
		}
	}
	change(t, m, 1, free(7))
	checkStep(t, l, m, loaded(1, free(7)))
	checkStep(t, l, m, swapped(1, free(7), held(7, 1)))
	checkStep(t, l, m, loaded(2, free(5)))
	checkStep(t, l, m, swapped(2, free(5), held(5, 1)))
	checkFinished(t, l, m)
	checkOld(t, l, free(2), free(7), free(5))
}

// P15.1: after a swap that is not done, the ownership record is loaded again, as often as it has to be.
func TestSwapFails(t *testing.T) {
	m := create(t)
	l := locker.NewLock(2, []int{4, 3})
	found := free(0)
	for _, other := range []uint64{free(1), free(5), free(4), free(0), free(api.MaxVersion)} {
		checkStep(t, l, m, loaded(3, found))
		change(t, m, 3, other)
		checkStep(t, l, m, failed(3, other))
		checkOld(t, l)
		found = other
	}
	for _, other := range []uint64{held(8, 0), held(0, 2), held(api.MaxVersion, 1)} {
		checkStep(t, l, m, loaded(3, found))
		change(t, m, 3, other)
		checkStep(t, l, m, failed(3, other))
		checkStep(t, l, m, loaded(3, other))
		checkOld(t, l)
		found = free(word.Version(other) / 2)
		change(t, m, 3, found)
	}
	checkStep(t, l, m, loaded(3, found))
	checkStep(t, l, m, swapped(3, found, found+3))
	checkOld(t, l, found)
	checkStep(t, l, m, loaded(4, 0))
	checkStep(t, l, m, swapped(4, 0, 3))
	checkFinished(t, l, m)
	checkOld(t, l, found, 0)
}

// P15.1: the swap finds the word that was loaded: it does not matter that it was another one in between.
func TestChangedBack(t *testing.T) {
	m := create(t)
	put(t, m, free(4))
	l := locker.NewLock(0, []int{0})
	checkStep(t, l, m, loaded(0, free(4)))
	put(t, m, held(4, 1))
	put(t, m, free(4))
	checkStep(t, l, m, swapped(0, free(4), held(4, 0)))
	checkFinished(t, l, m)
	checkOld(t, l, free(4))
}

// P15.1: a machine that has finished does nothing, whatever the cells are, and Old stays.
func TestFinished(t *testing.T) {
	m := create(t)
	put(t, m, free(4), free(5))
	l, r := locker.NewLock(0, []int{0, 1}), locker.NewRelease([]int{2}, []uint64{free(6)})
	for range 4 {
		l.Step(m)
	}
	r.Step(m)
	for _, o := range []uint64{free(4), held(4, 0), held(9, 1), free(9)} {
		put(t, m, o, o, o, o)
		checkFinished(t, l, m)
		checkFinished(t, r, m)
		checkOld(t, l, free(4), free(5))
	}
}

// P15.1: the words are stored in the order of the lists, whatever the ownership records are before.
func TestRelease(t *testing.T) {
	m := create(t)
	put(t, m, held(1, 0), held(2, 0), free(3), held(4, 1))
	r := locker.NewRelease([]int{3, 0, 2, 1}, []uint64{free(9), free(8), free(3), free(7)})
	checkStep(t, r, m, stored(3, held(4, 1), free(9)))
	checkOrecs(t, m, held(1, 0), held(2, 0), free(3), free(9))
	checkStep(t, r, m, stored(0, held(1, 0), free(8)))
	checkStep(t, r, m, stored(2, free(3), free(3)))
	checkStep(t, r, m, stored(1, held(2, 0), free(7)))
	checkFinished(t, r, m)
	checkOrecs(t, m, free(8), free(7), free(3), free(9))
}

// P15.1: an ownership record that is listed several times is stored as often, and a word may be any one.
func TestReleaseOfAnything(t *testing.T) {
	m := create(t)
	r := locker.NewRelease([]int{5, 5, 0, 5}, []uint64{math.MaxUint64, held(3, 2), 1 << 63, 0})
	checkStep(t, r, m, stored(5, 0, math.MaxUint64))
	checkStep(t, r, m, stored(5, math.MaxUint64, held(3, 2)))
	checkStep(t, r, m, stored(0, 0, 1<<63))
	checkStep(t, r, m, stored(5, held(3, 2), 0))
	checkFinished(t, r, m)
	checkOrecs(t, m, 1<<63)
}

// P15.1: the shorter list gives the number of stores.
func TestReleaseOfDifferentLengths(t *testing.T) {
	for indices := range 5 {
		for words := range 5 {
			m := create(t)
			r := locker.NewRelease([]int{3, 2, 1, 0}[:indices], []uint64{10, 11, 12, 13}[:words])
			for k := range min(indices, words) {
				checkStep(t, r, m, stored(3-k, 0, uint64(10+k)))
			}
			checkFinished(t, r, m)
		}
	}
}

// P15.1: what Old returns is released.
func TestLockAndRelease(t *testing.T) {
	m := create(t)
	put(t, m, free(3), free(1), free(4), free(1), free(5), free(9))
	for _, list := range [][]int{{}, {2}, {5, 1}, {4, 4, 0, 3}, {0, 1, 2, 3, 4, 5}} {
		l := locker.NewLock(1, list)
		complete(t, l, m, 2*len(list))
		for orec, o := range m.Image().Orec {
			if slices.Contains(list, orec) != (word.Holder(o) == 1) {
				t.Fatal(list, orec, o)
			}
		}
		r := locker.NewRelease(locker.Sorted(list), l.Old())
		complete(t, r, m, 6)
		checkOrecs(t, m, free(3), free(1), free(4), free(1), free(5), free(9))
	}
}

// P15.1: the arguments are neither changed nor kept, and Old is a copy.
func TestListsAreApart(t *testing.T) {
	m := create(t)
	list := []int{3, 1, 3, 2}
	l := locker.NewLock(0, list)
	if !slices.Equal(list, []int{3, 1, 3, 2}) {
		t.Fatal(list)
	}
	ascending := []int{1, 2, 3}
	other := locker.NewLock(0, ascending)
	copy(list, []int{0, 0, 0, 0})
	copy(ascending, []int{5, 5, 5})
	checkStep(t, l, m, loaded(1, 0))
	checkStep(t, other, m, loaded(1, 0))
	checkStep(t, l, m, swapped(1, 0, 1))
	l.Old()[0] = 99
	early := append(l.Old(), 98)
	checkStep(t, l, m, loaded(2, 0))
	checkStep(t, l, m, swapped(2, 0, 1))
	checkOld(t, l, 0, 0)
	if !slices.Equal(early, []uint64{0, 98}) {
		t.Fatal(early)
	}

	indices, words := []int{4, 5}, []uint64{40, 50}
	r := locker.NewRelease(indices, words)
	copy(indices, []int{0, 0})
	copy(words, []uint64{1, 1})
	checkStep(t, r, m, stored(4, 0, 40))
	checkStep(t, r, m, stored(5, 0, 50))
	checkFinished(t, r, m)
}

// P15.1 with P9.1's sentence: an ownership record that does not exist is as if it were 0, without an access.
func TestNoOrec(t *testing.T) {
	for _, orec := range noCells {
		m := create(t)
		put(t, m, 0, 0, free(8))
		l := locker.NewLock(1, []int{2, orec, 2})
		if orec < 0 {
			checkStep(t, l, m, api.Access{})
			checkStep(t, l, m, api.Access{})
			checkOld(t, l, 0)
		}
		checkStep(t, l, m, loaded(2, free(8)))
		checkStep(t, l, m, swapped(2, free(8), held(8, 1)))
		if orec > 0 {
			checkOld(t, l, free(8))
			checkStep(t, l, m, api.Access{})
			checkStep(t, l, m, api.Access{})
		}
		checkFinished(t, l, m)

		r := locker.NewRelease(locker.Sorted([]int{2, orec}), l.Old())
		complete(t, r, m, 6)
		checkOrecs(t, m, 0, 0, free(8))
	}
}

// P15.1: a store in an ownership record that does not exist does nothing, and the others follow.
func TestReleaseNoOrec(t *testing.T) {
	for _, orec := range noCells {
		m := create(t)
		r := locker.NewRelease([]int{orec, 1, orec, 0}, []uint64{5, 6, 7, 8})
		checkStep(t, r, m, api.Access{})
		checkStep(t, r, m, stored(1, 0, 6))
		checkStep(t, r, m, api.Access{})
		checkStep(t, r, m, stored(0, 0, 8))
		checkFinished(t, r, m)
		checkOrecs(t, m, 8, 6)
	}
}

// P15.1: no word is held by a number that is no thread, so nothing is locked for it, and no cell is changed.
func TestNoThread(t *testing.T) {
	for _, thread := range []int{math.MinInt, math.MinInt + 1, -65, -64, -2, -1, 16, 17, 63, 64, 1 << 32, math.MaxInt - 1, math.MaxInt} {
		m := create(t)
		put(t, m, free(2), free(3), held(4, 0))
		l := locker.NewLock(thread, []int{1, 0, 2})
		checkStep(t, l, m, loaded(0, free(2)))
		checkStep(t, l, m, api.Access{})
		checkStep(t, l, m, loaded(1, free(3)))
		checkStep(t, l, m, api.Access{})
		checkStep(t, l, m, loaded(2, held(4, 0)))
		checkStep(t, l, m, loaded(2, held(4, 0)))
		change(t, m, 2, free(4))
		checkStep(t, l, m, loaded(2, free(4)))
		checkStep(t, l, m, api.Access{})
		checkFinished(t, l, m)
		checkOld(t, l)
		checkOrecs(t, m, free(2), free(3), free(4))
	}
}

// P15.1: machines have nothing in common but the cells, and several cells nothing at all.
func TestMachinesAreApart(t *testing.T) {
	here, there := create(t), create(t)
	put(t, there, free(6), free(7))
	one, two, far := locker.NewLock(0, []int{0, 1}), locker.NewLock(1, []int{1, 0}), locker.NewLock(2, []int{0, 1})
	checkStep(t, one, here, loaded(0, 0))
	checkStep(t, two, here, loaded(0, 0))
	checkStep(t, far, there, loaded(0, free(6)))
	checkStep(t, two, here, swapped(0, 0, 2))
	checkStep(t, one, here, failed(0, 2))
	checkStep(t, far, there, swapped(0, free(6), held(6, 2)))
	checkStep(t, one, here, loaded(0, 2))
	checkStep(t, two, here, loaded(1, 0))
	checkStep(t, two, here, swapped(1, 0, 2))
	checkFinished(t, two, here)
	checkOld(t, one)
	checkOld(t, two, 0, 0)
	checkOld(t, far, free(6))
	first, second := locker.NewRelease([]int{0}, []uint64{free(1)}), locker.NewRelease([]int{1}, []uint64{free(9)})
	checkStep(t, first, here, stored(0, 2, free(1)))
	checkStep(t, second, there, stored(1, free(7), free(9)))
	checkStep(t, one, here, loaded(0, free(1)))
	checkStep(t, far, there, loaded(1, free(9)))
	checkOrecs(t, here, free(1), 2)
	checkOrecs(t, there, held(6, 2), free(9))
}

// A client locks each of its lists, one after another, and releases what it has locked: alternately with a new version and with the words from before.
type client struct {
	lists   [][]int
	next    int // the index of the list that is locked next
	lock    *locker.Lock
	release *locker.Release
	taking  bool // the next step of the lock is a swap
	freed   int  // ownership records that were released
}

// over reports whether a client has released all lists.
func (c *client) over() bool {
	return c.lock == nil && c.next == len(c.lists)
}

// list is the list that is locked or released now.
func (c *client) list() []int {
	return locker.Sorted(c.lists[c.next-1])
}

// owns returns the ownership records that were locked and not released yet.
func (c *client) owns() []int {
	if c.lock == nil {
		return nil
	}
	return c.list()[c.freed:len(c.lock.Old())]
}

// needs returns the ownership record that has to be locked next; there is none if nothing is being locked.
func (c *client) needs() (orec int, locking bool) {
	if c.lock == nil || c.lock.Done() {
		return 0, false
	}
	return c.list()[len(c.lock.Old())], true
}

// words are those with which the list is released.
func (c *client) words() []uint64 {
	words := c.lock.Old()
	for i := range words {
		words[i] += free(c.next % 2)
	}
	return words
}

// A world has clients with the same cells, and counts what has happened.
type world struct {
	m       *cells.Mem
	clients []*client
	seen    counts
}

type counts struct {
	waits int // loads of ownership records that were held
	again int // swaps that were not done
	locks int // lists that were locked
}

func (c *counts) add(other counts) {
	c.waits += other.waits
	c.again += other.again
	c.locks += other.locks
}

func newWorld(t *testing.T, programs [][][]int) *world {
	t.Helper()
	w := &world{m: create(t)}
	for _, lists := range programs {
		w.clients = append(w.clients, &client{lists: lists})
	}
	return w
}

// pick performs one step of a client, which makes a machine for the next list if it has none.
func (w *world) pick(thread int) {
	c := w.clients[thread]
	switch {
	case c.over():
	case c.lock == nil:
		c.lock = locker.NewLock(thread, c.lists[c.next])
		c.next++
		c.taking = false
	case !c.lock.Done():
		w.advance(c)
	case c.release == nil:
		w.seen.locks++
		c.release = locker.NewRelease(c.list(), c.words())
	case !c.release.Done():
		c.release.Step(w.m)
		c.freed++
	default:
		c.lock, c.release, c.freed = nil, nil, 0
	}
}

// advance performs one step of the lock.
func (w *world) advance(c *client) {
	a := c.lock.Step(w.m)
	c.taking = a.Kind == api.AccLoad && word.Holder(a.Got) < 0
	switch {
	case a.Kind == api.AccLoad && !c.taking:
		w.seen.waits++
	case !a.Done:
		w.seen.again++
	}
}

// owners returns the client that owns each ownership record, -1 for none; it fails the test if there are two of them, or the holder is another one.
func (w *world) owners(t *testing.T, picks []int) []int {
	t.Helper()
	owners := slices.Repeat([]int{-1}, orecs)
	for thread, c := range w.clients {
		for _, orec := range c.owns() {
			if owners[orec] >= 0 {
				t.Fatalf("picks %v: %d and %d have locked %d", picks, owners[orec], thread, orec)
			}
			owners[orec] = thread
		}
	}
	for orec, o := range w.m.Image().Orec {
		if word.Holder(o) != owners[orec] {
			t.Fatalf("picks %v: %d holds %d, which %d has locked", picks, word.Holder(o), orec, owners[orec])
		}
	}
	return owners
}

// check fails the test if an ownership record is locked by two clients, or if clients wait for one another in a circle.
func (w *world) check(t *testing.T, picks []int) {
	t.Helper()
	owners := w.owners(t, picks)
	waiting, going := 0, 0
	for first, c := range w.clients {
		orec, locking := c.needs()
		switch {
		case locking && !c.taking && owners[orec] >= 0:
			waiting++
		case locking || len(c.owns()) > 0:
			going++
		}
		for k := 0; locking && owners[orec] >= 0; k++ {
			if k == len(w.clients) {
				t.Fatalf("picks %v: %d waits in a circle, or for one", picks, first)
			}
			orec, locking = w.clients[owners[orec]].needs()
		}
	}
	if waiting > 0 && going == 0 {
		t.Fatalf("picks %v: %d clients wait, and no other one goes on", picks, waiting)
	}
}

// finish picks the clients in turns until all are over, which takes a bounded number of rounds.
func (w *world) finish(t *testing.T, picks []int) {
	t.Helper()
	steps := 0
	for _, c := range w.clients {
		for _, list := range c.lists {
			steps += 3 + 2*len(list)
		}
	}
	// These are the steps other than loads and swaps that fail. One of them occurs within three rounds: a client that does not wait has at most a swap that fails and a load before its swap is done, unless another client goes on meanwhile.
	for range 3 * (steps + 1) {
		if w.over() {
			return
		}
		for thread := range w.clients {
			w.pick(thread)
			w.check(t, picks)
		}
	}
	t.Fatalf("picks %v: the clients do not come to an end", picks)
}

// over reports whether all clients are over.
func (w *world) over() bool {
	for _, c := range w.clients {
		if !c.over() {
			return false
		}
	}
	return true
}

// run performs picks, and checks the world after the last one.
func run(t *testing.T, programs [][][]int, picks []int) *world {
	t.Helper()
	w := newWorld(t, programs)
	for _, p := range picks {
		w.pick(p)
	}
	w.check(t, picks)
	return w
}

// visit checks the world after each of the schedules that begin with some picks, up to a length or the end of the clients. From there on all clients go on in turns.
func visit(t *testing.T, programs [][][]int, picks []int, length int, sum *counts) {
	t.Helper()
	w := run(t, programs, picks)
	last := true
	for thread, c := range w.clients {
		if len(picks) < length && !c.over() {
			last = false
			visit(t, programs, append(picks, thread), length, sum)
		}
	}
	if last {
		w.finish(t, picks)
		sum.add(w.seen)
	}
}

// P15.2: all schedules of some clients up to a length. The lists are such that locking in their order would end in a circle.
func TestAllSchedules(t *testing.T) {
	for _, x := range []struct {
		programs [][][]int
		length   int
	}{
		{[][][]int{{{0, 1}}, {{1, 0}}}, 12},
		{[][][]int{{{2, 2, 1}, {1}}, {{1, 2, 1}}}, 12},
		{[][][]int{{{3}, {3}}, {{3}, {3}}}, 12},
		{[][][]int{{{0, 1, 2}}, {{2, 1, 0}}}, 12},
		{[][][]int{{{0, 1}}, {{1, 2}}, {{2, 0}}}, 7},
		{[][][]int{{{4}}, {{4}}, {{4}}}, 7},
		{[][][]int{{{5, 0}, {}}, {{0, 5}}, {{0}}}, 7},
	} {
		var sum counts
		visit(t, x.programs, nil, x.length, &sum)
		if sum.waits < 100 || sum.again < 100 || sum.locks < 100 {
			t.Errorf("%v: too little has happened: %+v", x.programs, sum)
		}
	}
}

// P15.2: long schedules of more clients.
func TestRandomSchedules(t *testing.T) {
	r := rand.New(rand.NewSource(15))
	var sum counts
	for range 300 {
		programs := make([][][]int, 2+r.Intn(7))
		for thread := range programs {
			for range 1 + r.Intn(4) {
				list := make([]int, r.Intn(8))
				for i := range list {
					list[i] = r.Intn(orecs)
				}
				programs[thread] = append(programs[thread], list)
			}
		}
		w := newWorld(t, programs)
		var picks []int
		for range 200 {
			picks = append(picks, r.Intn(len(programs)))
			w.pick(picks[len(picks)-1])
			w.check(t, picks)
		}
		w.finish(t, picks)
		sum.add(w.seen)
	}
	if sum.waits < 1000 || sum.again < 100 || sum.locks < 1000 {
		t.Errorf("too little has happened: %+v", sum)
	}
}
