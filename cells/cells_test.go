package cells_test

import (
	"math"
	"math/rand"
	"reflect"
	"slices"
	"sync"
	"testing"

	"strongtx/api"
	"strongtx/cells"
)

// example returns a configuration whose four blocks, of the classes 0, 0, 1 and 3, fill the words from 4 to 15.
func example() api.Config {
	return api.Config{Words: 16, Orecs: 5, Base: 4, Count: [api.Classes]int{2, 1, 0, 1}, Reads: 8, Writes: 8, Allocs: 2, Frees: 2, Clock: 100}
}

// with returns the example with a change.
func with(change func(*api.Config)) api.Config {
	c := example()
	change(&c)
	return c
}

// words returns n words that are all different and not 0.
func words(n int) []uint64 {
	init := make([]uint64, n)
	for a := range init {
		init[a] = uint64(a) + math.MaxUint64 - 70
	}
	return init
}

func create(t *testing.T, c api.Config, threads int) *cells.Mem {
	t.Helper()
	m, e := cells.New(c, threads, words(c.Words))
	if e != api.OK || m == nil {
		t.Fatal(c, threads, m, e)
	}
	return m
}

// same compares images, in which nil and empty lists are the same.
func same(a, b api.Image) bool {
	return slices.Equal(a.Data, b.Data) && slices.Equal(a.Orec, b.Orec) && a.Clock == b.Clock && a.Ticket == b.Ticket &&
		a.Serving == b.Serving && slices.Equal(a.Slot, b.Slot) && slices.Equal(a.Head, b.Head) && slices.Equal(a.Next, b.Next)
}

func checkImage(t *testing.T, m *cells.Mem, want api.Image) {
	t.Helper()
	if got := m.Image(); !same(got, want) {
		t.Fatalf("%v, want %v", got, want)
	}
}

func TestExample(t *testing.T) {
	m := create(t, example(), 2)
	a, e := m.Add(api.CellTicket, 0, 1)
	if want := (api.Access{Kind: api.AccAdd, Cell: api.CellTicket, Got: 0, Put: 1, Done: true}); a != want || e != api.OK {
		t.Error(a, e)
	}
}

// TestInitial has the first images of some configurations written out (P8.1).
func TestInitial(t *testing.T) {
	for _, x := range []struct {
		c       api.Config
		threads int
		want    api.Image
	}{
		{example(), 3, api.Image{
			Data: append(words(16), 0, 0, 0, 0),
			Orec: make([]uint64, 5),
			Slot: make([]uint64, 3),
			Head: []uint64{1, 3, 0, 4},
			Next: []uint64{2, 0, 0, 0},
		}},
		{with(func(c *api.Config) { c.Count = [api.Classes]int{3, 2, 1, 0} }), 16, api.Image{
			Data: append(words(16), 0, 0, 0, 0, 0, 0),
			Orec: make([]uint64, 5),
			Slot: make([]uint64, 16),
			Head: []uint64{1, 4, 6, 0},
			Next: []uint64{2, 3, 0, 5, 0, 0},
		}},
		{with(func(c *api.Config) { c.Count = [api.Classes]int{0, 0, 3, 0} }), 2, api.Image{
			Data: append(words(16), 0, 0, 0),
			Orec: make([]uint64, 5),
			Slot: make([]uint64, 2),
			Head: []uint64{0, 0, 1, 0},
			Next: []uint64{2, 3, 0},
		}},
		{with(func(c *api.Config) { c.Words, c.Orecs, c.Base, c.Count = 1, 1, 1, [api.Classes]int{} }), 1, api.Image{
			Data: words(1),
			Orec: make([]uint64, 1),
			Slot: make([]uint64, 1),
			Head: make([]uint64, 4),
		}},
	} {
		checkImage(t, create(t, x.c, x.threads), x.want)
	}
}

// initial returns the first image of a configuration: the lists are linked from their last blocks on.
func initial(c api.Config, threads int) api.Image {
	blocks := c.Count[0] + c.Count[1] + c.Count[2] + c.Count[3]
	i := api.Image{
		Data: append(words(c.Words), make([]uint64, blocks)...),
		Orec: make([]uint64, c.Orecs),
		Slot: make([]uint64, threads),
		Head: make([]uint64, api.Classes),
		Next: make([]uint64, blocks),
	}
	for class := api.Classes - 1; class >= 0; class-- {
		for range c.Count[class] {
			i.Next[blocks-1], i.Head[class] = i.Head[class], uint64(blocks)
			blocks--
		}
	}
	return i
}

// shapes returns configurations with heaps of all kinds, among them the smallest and the largest ones.
func shapes() []api.Config {
	var list []api.Config
	for _, count := range [][api.Classes]int{{}, {1}, {2, 1}, {0, 0, 0, 1}, {3, 0, 2, 1}, {0, 2, 0, 1}, {1, 1, 1, 1}, {64}, {63}, {0, 32}, {0, 0, 16}, {0, 0, 0, 8}, {8, 8, 6, 2}} {
		size := count[0] + 2*count[1] + 4*count[2] + 8*count[3]
		for _, n := range []int{max(1, size), (size + 65) / 2, 64} {
			for _, orecs := range []int{1, 7, 64} {
				list = append(list, with(func(c *api.Config) { c.Words, c.Orecs, c.Base, c.Count = n, orecs, n-size, count }))
			}
		}
	}
	return list
}

func TestShapes(t *testing.T) {
	for _, c := range shapes() {
		for _, threads := range []int{1, 2, 15, 16} {
			checkImage(t, create(t, c, threads), initial(c, threads))
		}
	}
}

func checkRefused(t *testing.T, c api.Config, threads int, init []uint64, want api.Errno) {
	t.Helper()
	if m, e := cells.New(c, threads, init); m != nil || e != want {
		t.Error(c, threads, len(init), m, e, want)
	}
}

func TestNewErrors(t *testing.T) {
	for _, x := range []struct {
		change func(*api.Config)
		e      api.Errno
	}{
		{func(c *api.Config) { *c = api.Config{} }, api.ErrWords},
		{func(c *api.Config) { c.Words = 65 }, api.ErrWords},
		{func(c *api.Config) { c.Words = -1 }, api.ErrWords},
		{func(c *api.Config) { c.Orecs = math.MaxInt }, api.ErrWords},
		{func(c *api.Config) { c.Base = 5 }, api.ErrHeap},
		{func(c *api.Config) { c.Count[2] = -1 }, api.ErrHeap},
		{func(c *api.Config) { c.Count[0] = math.MaxInt }, api.ErrHeap},
		{func(c *api.Config) { c.Reads = 0 }, api.ErrLogs},
		{func(c *api.Config) { c.Frees = 9 }, api.ErrLogs},
		{func(c *api.Config) { c.Clock = api.MaxVersion + 1 }, api.ErrClock},
	} {
		c := with(x.change)
		checkRefused(t, c, 2, words(16), x.e)
		checkRefused(t, c, 0, words(16), x.e)
		checkRefused(t, c, 2, nil, x.e)
		checkRefused(t, c, 17, words(15), x.e)
	}
	for _, threads := range []int{math.MinInt, -1, 0, 17, 1 << 32, 1<<32 + 1, math.MaxInt} {
		checkRefused(t, example(), threads, words(16), api.ErrThreads)
		checkRefused(t, example(), threads, words(17), api.ErrThreads)
		checkRefused(t, example(), threads, nil, api.ErrThreads)
	}
	for _, n := range []int{0, 1, 15, 17, 20, 64} {
		checkRefused(t, example(), 1, words(n), api.ErrInit)
		checkRefused(t, example(), 16, words(n), api.ErrInit)
	}
	checkRefused(t, example(), 1, nil, api.ErrInit)
}

// An operation is one of the four, with its arguments.
type operation struct {
	kind, cell, index int
	old, v            uint64
}

func (o operation) perform(m *cells.Mem) (api.Access, api.Errno) {
	switch o.kind {
	case api.AccLoad:
		return m.Load(o.cell, o.index)
	case api.AccStore:
		return m.Store(o.cell, o.index, o.v)
	case api.AccSwap:
		return m.Swap(o.cell, o.index, o.old, o.v)
	}
	return m.Add(o.cell, o.index, o.v)
}

// operations returns one operation of each kind on a cell.
func operations(cell, index int, old, v uint64) []operation {
	return []operation{
		{api.AccLoad, cell, index, 0, 0},
		{api.AccStore, cell, index, 0, v},
		{api.AccSwap, cell, index, old, v},
		{api.AccAdd, cell, index, 0, v},
	}
}

// TestOperations performs operations one after another on the same cell (P8.2).
func TestOperations(t *testing.T) {
	const top = math.MaxUint64
	for _, at := range []struct{ cell, index int }{{api.CellData, 7}, {api.CellData, 19}, {api.CellOrec, 4}, {api.CellClock, 0}, {api.CellTicket, 0}, {api.CellServing, 0}, {api.CellSlot, 1}, {api.CellHead, 2}, {api.CellNext, 3}} {
		m := create(t, example(), 2)
		if _, e := m.Store(at.cell, at.index, 5); e != api.OK {
			t.Fatal(at, e)
		}
		for i, x := range []struct {
			kind     int
			old, v   uint64
			got, put uint64
			done     bool
		}{
			{api.AccLoad, 0, 0, 5, 5, true},
			{api.AccStore, 0, 7, 5, 7, true},
			{api.AccStore, 0, 7, 7, 7, true},
			{api.AccSwap, 7, 9, 7, 9, true},
			{api.AccSwap, 7, 3, 9, 9, false},
			{api.AccSwap, 0, 9, 9, 9, false},
			{api.AccSwap, 9, 9, 9, 9, true},
			{api.AccLoad, 0, 0, 9, 9, true},
			{api.AccAdd, 0, 4, 9, 13, true},
			{api.AccAdd, 0, 0, 13, 13, true},
			{api.AccAdd, 0, top, 13, 12, true},
			{api.AccAdd, 0, top - 12, 12, top, true},
			{api.AccAdd, 0, 1, top, 0, true},
			{api.AccSwap, top, 1, 0, 0, false},
			{api.AccSwap, 0, top, 0, top, true},
			{api.AccSwap, top, 1 << 63, top, 1 << 63, true},
			{api.AccAdd, 0, 1 << 63, 1 << 63, 0, true},
			{api.AccStore, 0, top, 0, top, true},
			{api.AccStore, 0, 0, top, 0, true},
			{api.AccLoad, 0, 0, 0, 0, true},
		} {
			want := api.Access{Kind: x.kind, Cell: at.cell, Index: at.index, Got: x.got, Put: x.put, Done: x.done}
			if a, e := (operation{x.kind, at.cell, at.index, x.old, x.v}).perform(m); a != want || e != api.OK {
				t.Errorf("%d: %v %d, want %v", i, a, e, want)
			}
		}
	}
}

// lists returns the kinds of cells, in the order of their numbers, with lists of an image.
func lists(i *api.Image) [][]uint64 {
	return [][]uint64{nil, i.Data, i.Orec, {i.Clock}, {i.Ticket}, {i.Serving}, i.Slot, i.Head, i.Next}
}

// set changes a cell of an image.
func set(i *api.Image, cell, index int, v uint64) {
	switch cell {
	case api.CellClock:
		i.Clock = v
	case api.CellTicket:
		i.Ticket = v
	case api.CellServing:
		i.Serving = v
	default:
		lists(i)[cell][index] = v
	}
}

// TestCells performs each operation on each cell, and on those around that do not exist.
func TestCells(t *testing.T) {
	for _, c := range shapes() {
		m, want := create(t, c, 3), initial(c, 3)
		for cell := api.CellData; cell <= api.CellNext; cell++ {
			n := len(lists(&want)[cell])
			for index := range n {
				got := lists(&want)[cell][index]
				v := uint64(100*cell + index)
				for _, o := range operations(cell, index, v, v+1) {
					put := map[int]uint64{api.AccLoad: got, api.AccStore: o.v, api.AccSwap: got, api.AccAdd: got + o.v}[o.kind]
					done := o.kind != api.AccSwap || got == o.old
					if o.kind == api.AccSwap && done {
						put = o.v
					}
					access := api.Access{Kind: o.kind, Cell: cell, Index: index, Got: got, Put: put, Done: done}
					if a, e := o.perform(m); a != access || e != api.OK {
						t.Fatal(c, o, a, e, access)
					}
					got = put
				}
				set(&want, cell, index, got)
			}
			for _, index := range []int{math.MinInt, -1, n, n + 1, 64, 128, math.MaxInt} {
				if index < 0 || index >= n {
					checkNoCell(t, m, cell, index, api.ErrCell)
				}
			}
		}
		checkImage(t, m, want)
	}
}

// checkNoCell checks that the operations on a cell return an error, and no access.
func checkNoCell(t *testing.T, m *cells.Mem, cell, index int, want api.Errno) {
	t.Helper()
	for _, o := range operations(cell, index, 0, 1) {
		if a, e := o.perform(m); a != (api.Access{}) || e != want {
			t.Fatal(o, a, e, want)
		}
	}
}

func TestNoCells(t *testing.T) {
	m := create(t, example(), 2)
	for _, cell := range []int{math.MinInt, -1, 0, api.CellNext + 1, 64, 1<<32 + 1, math.MaxInt} {
		for _, index := range []int{math.MinInt, -1, 0, 1, math.MaxInt} {
			checkNoCell(t, m, cell, index, api.ErrCell)
		}
	}
	for _, at := range []struct{ cell, index int }{
		{api.CellData, 20}, {api.CellOrec, 5}, {api.CellClock, 1}, {api.CellTicket, 1}, {api.CellServing, 1}, {api.CellSlot, 2}, {api.CellHead, 4}, {api.CellNext, 4},
		{api.CellData, -1}, {api.CellSlot, -1}, {api.CellSlot, 1 << 32}, {api.CellClock, -1},
	} {
		checkNoCell(t, m, at.cell, at.index, api.ErrCell)
	}
	checkImage(t, m, initial(example(), 2))
}

// TestRandom compares long sequences of operations with an image that is changed beside them.
func TestRandom(t *testing.T) {
	r := rand.New(rand.NewSource(8))
	done := map[bool]int{}
	for _, c := range shapes() {
		threads := 1 + r.Intn(api.MaxThreads)
		m, want := create(t, c, threads), initial(c, threads)
		for range 500 {
			o := operation{kind: 1 + r.Intn(4), cell: r.Intn(10), index: r.Intn(12) - 1, old: uint64(r.Intn(3)), v: uint64(r.Intn(4) - 1)}
			if o.cell == 9 || o.index < 0 || o.index >= len(lists(&want)[o.cell]) {
				checkNoCell(t, m, o.cell, o.index, api.ErrCell)
				continue
			}
			got := lists(&want)[o.cell][o.index]
			access := api.Access{Kind: o.kind, Cell: o.cell, Index: o.index, Got: got, Put: got, Done: true}
			switch {
			case o.kind == api.AccStore, o.kind == api.AccSwap && got == o.old:
				access.Put = o.v
			case o.kind == api.AccSwap:
				access.Done = false
			case o.kind == api.AccAdd:
				access.Put += o.v
			}
			if a, e := o.perform(m); a != access || e != api.OK {
				t.Fatal(c, o, a, e, access)
			}
			set(&want, o.cell, o.index, access.Put)
			if o.kind == api.AccSwap {
				done[access.Done]++
			}
		}
		checkImage(t, m, want)
	}
	if done[true] < 100 || done[false] < 100 {
		t.Error("too few swaps of a kind:", done)
	}
}

// fill overwrites all lists of an image.
func fill(i api.Image, v uint64) {
	for _, list := range [][]uint64{i.Data, i.Orec, i.Slot, i.Head, i.Next} {
		for at := range list[:cap(list)] {
			list[:cap(list)][at] = v
		}
	}
}

// TestMemory checks that neither the initial words nor an image share memory with the cells (P8.3, R4).
func TestMemory(t *testing.T) {
	init := append(words(16), 1, 2, 3, 4, 5, 6, 7, 8)
	before := slices.Clone(init)
	m, e := cells.New(example(), 2, init[:16])
	if e != api.OK {
		t.Fatal(e)
	}
	for cell := api.CellData; cell <= api.CellNext; cell++ {
		if _, e := m.Add(cell, 0, 1); e != api.OK {
			t.Fatal(cell, e)
		}
	}
	if !slices.Equal(init, before) {
		t.Error("the initial words were changed:", init)
	}
	want := initial(example(), 2)
	for cell := api.CellData; cell <= api.CellNext; cell++ {
		set(&want, cell, 0, lists(&want)[cell][0]+1)
	}
	for at := range init {
		init[at] = 77
	}
	checkImage(t, m, want)

	first, second := m.Image(), m.Image()
	fill(first, 99)
	if !same(second, want) {
		t.Error("two images share memory:", second)
	}
	checkImage(t, m, want)
	for cell := api.CellData; cell <= api.CellNext; cell++ {
		if _, e := m.Store(cell, 0, 55); e != api.OK {
			t.Fatal(cell, e)
		}
	}
	if !same(second, want) {
		t.Error("an image changes with the cells:", second)
	}
}

// TestApart checks that two Mems have nothing in common.
func TestApart(t *testing.T) {
	one, two := create(t, example(), 2), create(t, example(), 2)
	for cell := api.CellData; cell <= api.CellNext; cell++ {
		if _, e := one.Store(cell, 0, 9); e != api.OK {
			t.Fatal(cell, e)
		}
	}
	checkImage(t, two, initial(example(), 2))
}

func TestNil(t *testing.T) {
	var m *cells.Mem
	for _, cell := range []int{-1, 0, api.CellData, api.CellClock, api.CellNext, 9} {
		for _, index := range []int{-1, 0, 1 << 40} {
			checkNoCell(t, m, cell, index, api.ErrArg)
		}
	}
	if i := m.Image(); !reflect.DeepEqual(i, api.Image{}) {
		t.Error(i)
	}
}

// TestIndivisible performs operations of several goroutines on the same cells.
func TestIndivisible(t *testing.T) {
	const workers, rounds = 8, 5000
	m := create(t, example(), 2)
	var group sync.WaitGroup
	for range workers {
		group.Go(func() {
			for range rounds {
				m.Add(api.CellTicket, 0, 1)
				for done := false; !done; {
					loaded, _ := m.Load(api.CellClock, 0)
					swapped, _ := m.Swap(api.CellClock, 0, loaded.Got, loaded.Got+1)
					done = swapped.Done
				}
			}
		})
	}
	group.Wait()
	if i := m.Image(); i.Ticket != workers*rounds || i.Clock != workers*rounds {
		t.Error(i.Ticket, i.Clock, workers*rounds)
	}
}
