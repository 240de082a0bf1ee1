package writer_test

import (
	"math"
	"math/rand"
	"reflect"
	"slices"
	"testing"

	"strongtx/api"
	"strongtx/cells"
	"strongtx/redo"
	"strongtx/writer"
)

// words is the number of words of the client, and data that of all words: the cells of these tests have three blocks.
const (
	words = 6
	data  = 9
)

// noCells are addresses at which there is no word.
var noCells = []int{math.MinInt, math.MinInt + 1, -64, -1, 9, 10, 64, 128, 1 << 32, math.MaxInt - 1, math.MaxInt}

// create returns cells with six words of the client, 90 to 95, and three state words, 0.
func create(t *testing.T) *cells.Mem {
	t.Helper()
	c := api.Config{Words: words, Orecs: 4, Base: 2, Count: [api.Classes]int{2, 1}, Reads: 4, Writes: 4, Clock: 1000}
	m, e := cells.New(c, 3, []uint64{90, 91, 92, 93, 94, 95})
	if e != api.OK {
		t.Fatal(e)
	}
	for cell, v := range map[int]uint64{api.CellOrec: 66, api.CellClock: 77, api.CellTicket: 6, api.CellServing: 5, api.CellSlot: 9} {
		if _, e := m.Store(cell, 0, v); e != api.OK {
			t.Fatal(cell, e)
		}
	}
	return m
}

// stored is the access of a store.
func stored(addr int, got, put uint64) api.Access {
	return api.Access{Kind: api.AccStore, Cell: api.CellData, Index: addr, Got: got, Put: put, Done: true}
}

// checkStep performs a step of a machine before which this many stores are left.
func checkStep(t *testing.T, w *writer.Write, m *cells.Mem, left int, want api.Access) {
	t.Helper()
	if w.Done() || w.Left() != left {
		t.Fatalf("done %v, left %d before %v; want %d", w.Done(), w.Left(), want, left)
	}
	if a := w.Step(m); a != want {
		t.Fatalf("%v, want %v", a, want)
	}
}

// checkFinished checks that a machine has finished, and that its steps do nothing.
func checkFinished(t *testing.T, w *writer.Write, m *cells.Mem) {
	t.Helper()
	before := m.Image()
	for range 3 {
		if !w.Done() || w.Left() != 0 {
			t.Fatalf("done %v, left %d", w.Done(), w.Left())
		}
		if a := w.Step(m); a != (api.Access{}) {
			t.Fatal(a)
		}
	}
	if after := m.Image(); !reflect.DeepEqual(after, before) {
		t.Fatalf("%v, before %v", after, before)
	}
}

// checkData checks all words.
func checkData(t *testing.T, m *cells.Mem, want ...uint64) {
	t.Helper()
	if got := m.Image().Data; !slices.Equal(got, want) {
		t.Fatalf("%v, want %v", got, want)
	}
}

// P17.1: each value is stored at its address, in the order of the lists; no other cell is changed.
func TestOrder(t *testing.T) {
	for _, addrs := range [][]int{{0}, {8}, {0, 1, 2, 3, 4, 5, 6, 7, 8}, {8, 7, 6, 5, 4, 3, 2, 1, 0}, {4, 0, 7, 2}, {6, 5}} {
		m := create(t)
		want := m.Image()
		values := []uint64{10, math.MaxUint64, 0, 1 << 63, 14, 15, 16, 17, 18}[:len(addrs)]
		w := writer.New(addrs, values)
		if now := m.Image(); !reflect.DeepEqual(now, want) {
			t.Fatalf("%v before any step, want %v", now, want)
		}
		for k, addr := range addrs {
			checkStep(t, w, m, len(addrs)-k, stored(addr, want.Data[addr], values[k]))
			want.Data[addr] = values[k]
			if now := m.Image(); !reflect.DeepEqual(now, want) {
				t.Fatalf("%v after %d steps, want %v", now, k+1, want)
			}
		}
		checkFinished(t, w, m)
	}
}

// The chapter's example.
func TestExample(t *testing.T) {
	m := create(t)
	w := writer.New([]int{3, 1}, []uint64{30, 10})
	checkStep(t, w, m, 2, stored(3, 93, 30))
	checkStep(t, w, m, 1, stored(1, 91, 10))
	checkFinished(t, w, m)
	checkData(t, m, 90, 10, 92, 30, 94, 95, 0, 0, 0)
}

// P17.1: an address that is listed several times is stored at as often; the last value remains. A value that is there already is stored, too.
func TestSameAddress(t *testing.T) {
	m := create(t)
	w := writer.New([]int{2, 2, 0, 2, 2}, []uint64{7, 8, 90, 92, 92})
	checkStep(t, w, m, 5, stored(2, 92, 7))
	checkStep(t, w, m, 4, stored(2, 7, 8))
	checkStep(t, w, m, 3, stored(0, 90, 90))
	checkStep(t, w, m, 2, stored(2, 8, 92))
	checkStep(t, w, m, 1, stored(2, 92, 92))
	checkFinished(t, w, m)
	checkData(t, m, 90, 91, 92, 93, 94, 95, 0, 0, 0)
}

// P17.1: the shorter list gives the number of stores, whichever it is.
func TestDifferentLengths(t *testing.T) {
	for addrs := range 6 {
		for values := range 6 {
			m := create(t)
			w := writer.New([]int{4, 3, 2, 1, 0}[:addrs], []uint64{10, 11, 12, 13, 14}[:values])
			want := m.Image().Data
			n := min(addrs, values)
			for k := range n {
				checkStep(t, w, m, n-k, stored(4-k, want[4-k], uint64(10+k)))
				want[4-k] = uint64(10 + k)
			}
			checkFinished(t, w, m)
			checkData(t, m, want...)
		}
	}
}

// P17.1: without elements in one of the lists, or in both, the machine has finished at once.
func TestNothing(t *testing.T) {
	m := create(t)
	for _, addrs := range [][]int{nil, {}} {
		for _, values := range [][]uint64{nil, {}} {
			checkFinished(t, writer.New(addrs, values), m)
			checkFinished(t, writer.New([]int{1, 2}, values), m)
			checkFinished(t, writer.New(addrs, []uint64{1, 2}), m)
		}
	}
	checkData(t, m, 90, 91, 92, 93, 94, 95, 0, 0, 0)
}

// P17.1: as many elements as a redo log may have, and far more.
func TestLongLists(t *testing.T) {
	for _, length := range []int{api.MaxWrites, api.MaxWrites + 1, 1000} {
		m := create(t)
		addrs, values := make([]int, length), make([]uint64, length)
		for i := range addrs {
			addrs[i], values[i] = i*4%data, uint64(1000+i)
		}
		want := m.Image().Data
		w := writer.New(addrs, values)
		for i, addr := range addrs {
			checkStep(t, w, m, length-i, stored(addr, want[addr], values[i]))
			want[addr] = values[i]
		}
		checkFinished(t, w, m)
		checkData(t, m, want...)
	}
}

// P17.1: all words of the greatest arena can be stored at.
func TestGreatestArena(t *testing.T) {
	c := api.Config{Words: api.MaxWords, Orecs: api.MaxOrecs, Count: [api.Classes]int{api.MaxBlocks}, Reads: 1, Writes: api.MaxWrites, Clock: 1}
	m, e := cells.New(c, api.MaxThreads, make([]uint64, api.MaxWords))
	if e != api.OK {
		t.Fatal(e)
	}
	addrs, values := make([]int, api.MaxWords+api.MaxBlocks), make([]uint64, api.MaxWords+api.MaxBlocks)
	for i := range addrs {
		addrs[i], values[i] = len(addrs)-1-i, uint64(i+1)
	}
	w := writer.New(addrs, values)
	for i, addr := range addrs {
		checkStep(t, w, m, len(addrs)-i, stored(addr, 0, values[i]))
	}
	checkFinished(t, w, m)
	slices.Reverse(values)
	checkData(t, m, values...)
}

// P17.1 with P9.1's sentence: a store at an address without a word does nothing, and the others follow; it counts as one that is left until its step.
func TestNoWord(t *testing.T) {
	for _, addr := range noCells {
		m := create(t)
		w := writer.New([]int{addr, 1, addr, 0, addr}, []uint64{5, 6, 7, 8, 9})
		checkStep(t, w, m, 5, api.Access{})
		checkData(t, m, 90, 91, 92, 93, 94, 95, 0, 0, 0)
		checkStep(t, w, m, 4, stored(1, 91, 6))
		checkStep(t, w, m, 3, api.Access{})
		checkStep(t, w, m, 2, stored(0, 90, 8))
		checkStep(t, w, m, 1, api.Access{})
		checkFinished(t, w, m)
		checkData(t, m, 8, 6, 92, 93, 94, 95, 0, 0, 0)
	}
}

// P17.1: the lists are neither changed nor kept.
func TestListsAreApart(t *testing.T) {
	m := create(t)
	addrs, values := make([]int, 3, 8), make([]uint64, 2, 8)
	copy(addrs, []int{2, 0, 4})
	copy(values, []uint64{20, 30})
	w := writer.New(addrs, values)
	if !slices.Equal(addrs, []int{2, 0, 4}) || !slices.Equal(values, []uint64{20, 30}) {
		t.Fatal(addrs, values)
	}
	copy(addrs, []int{5, 5, 5})
	copy(values, []uint64{1, 1})
	checkStep(t, w, m, 2, stored(2, 92, 20))
	checkStep(t, w, m, 1, stored(0, 90, 30))
	checkFinished(t, w, m)
	if !slices.Equal(addrs[:8], []int{5, 5, 5, 0, 0, 0, 0, 0}) || !slices.Equal(values[:8], []uint64{1, 1, 0, 0, 0, 0, 0, 0}) {
		t.Fatal(addrs[:8], values[:8])
	}
}

// P17.1: machines have nothing in common but the cells, and several cells nothing at all.
func TestMachinesAreApart(t *testing.T) {
	here, there := create(t), create(t)
	addrs, values := []int{0, 1}, []uint64{1, 2}
	one, two, far := writer.New(addrs, values), writer.New(addrs, []uint64{3, 4}), writer.New(addrs, values)
	checkStep(t, one, here, 2, stored(0, 90, 1))
	checkStep(t, two, here, 2, stored(0, 1, 3))
	checkStep(t, far, there, 2, stored(0, 90, 1))
	checkStep(t, two, here, 1, stored(1, 91, 4))
	checkFinished(t, two, here)
	checkStep(t, one, here, 1, stored(1, 4, 2))
	checkFinished(t, one, here)
	checkData(t, here, 3, 2, 92, 93, 94, 95, 0, 0, 0)
	checkData(t, there, 1, 91, 92, 93, 94, 95, 0, 0, 0)
	checkStep(t, far, there, 1, stored(1, 91, 2))
	checkFinished(t, far, there)
}

// P17.1: Done and Left do not advance the machine.
func TestQuestionsChangeNothing(t *testing.T) {
	m := create(t)
	w := writer.New([]int{5}, []uint64{50})
	for range 5 {
		if w.Done() || w.Left() != 1 {
			t.Fatal(w.Done(), w.Left())
		}
	}
	checkData(t, m, 90, 91, 92, 93, 94, 95, 0, 0, 0)
	checkStep(t, w, m, 1, stored(5, 95, 50))
	checkFinished(t, w, m)
}

// P17.1: a redo log that is written back leaves in each word what the log gives for it.
func TestRedoLogs(t *testing.T) {
	r := rand.New(rand.NewSource(17))
	for range 2000 {
		m := create(t)
		want := m.Image()
		l := redo.New(r.Intn(6))
		for range r.Intn(12) {
			l.Put(r.Intn(data), r.Uint64())
		}
		w := writer.New(l.Addrs(), l.Values())
		for k := range l.Len() {
			addr := l.Addrs()[k]
			v, _ := l.Get(addr)
			checkStep(t, w, m, l.Len()-k, stored(addr, want.Data[addr], v))
			want.Data[addr] = v
		}
		checkFinished(t, w, m)
		if now := m.Image(); !reflect.DeepEqual(now, want) {
			t.Fatalf("%v, want %v", now, want)
		}
	}
}
