package redo_test

import (
	"math"
	"math/big"
	"math/rand"
	"slices"
	"testing"

	"strongtx/api"
	"strongtx/redo"
)

// model is a log as the chapter describes it: the pairs in their order, and the places of the index.
type model struct {
	capacity int
	addrs    []int
	values   []uint64
	index    []int
}

func newModel(capacity int) *model {
	n := min(max(capacity, 0), api.MaxWrites)
	s := 1
	for s < 2*n {
		s += s
	}
	return &model{capacity: n, index: slices.Repeat([]int{-1}, s)}
}

// home is computed without any bound of integers.
func (m *model) home(addr int) int {
	five := new(big.Int).Mul(big.NewInt(5), big.NewInt(int64(addr)))
	return int(five.Mod(five, big.NewInt(int64(len(m.index)))).Int64())
}

func (m *model) put(addr int, v uint64) bool {
	if i := slices.Index(m.addrs, addr); i >= 0 {
		m.values[i] = v
		return true
	}
	if addr < 0 || len(m.addrs) == m.capacity {
		return false
	}
	for i := range m.index {
		if p := (m.home(addr) + i) % len(m.index); m.index[p] < 0 {
			m.index[p] = len(m.addrs)
			break
		}
	}
	m.addrs = append(m.addrs, addr)
	m.values = append(m.values, v)
	return true
}

func (m *model) clear() {
	*m = *newModel(m.capacity)
}

// check compares a log with its model, also for some addresses that may or may not be in it.
func check(t *testing.T, l *redo.Log, m *model, addrs ...int) {
	t.Helper()
	if !slices.Equal(l.Addrs(), m.addrs) || !slices.Equal(l.Values(), m.values) || l.Len() != len(m.addrs) {
		t.Fatalf("%v %v, length %d; want %v %v", l.Addrs(), l.Values(), l.Len(), m.addrs, m.values)
	}
	if !slices.Equal(l.Index(), m.index) {
		t.Fatalf("addresses %v: index %v, want %v", m.addrs, l.Index(), m.index)
	}
	for _, addr := range append(addrs, m.addrs...) {
		want, there := uint64(0), false
		if i := slices.Index(m.addrs, addr); i >= 0 {
			want, there = m.values[i], true
		}
		if v, ok := l.Get(addr); v != want || ok != there {
			t.Fatalf("Get(%d) is %d, %t; want %d, %t", addr, v, ok, want, there)
		}
	}
}

// put calls Put for a log and its model, and compares them then.
func put(t *testing.T, l *redo.Log, m *model, addr int, v uint64) bool {
	t.Helper()
	want := m.put(addr, v)
	if got := l.Put(addr, v); got != want {
		t.Fatalf("Put(%d, %d) is %t; the addresses are %v", addr, v, got, m.addrs)
	}
	check(t, l, m, addr, addr+1)
	return want
}

// The chapter's example, and how the log goes on.
func TestExample(t *testing.T) {
	l := redo.New(2)
	if !l.Put(1, 10) || !slices.Equal(l.Index(), []int{-1, 0, -1, -1}) {
		t.Fatal("1 is not at place 1:", l.Index())
	}
	if !l.Put(5, 50) || !slices.Equal(l.Index(), []int{-1, 0, 1, -1}) {
		t.Fatal("5 is not at place 2:", l.Index())
	}
	if l.Put(9, 90) || !l.Put(5, 51) || l.Len() != 2 {
		t.Fatal("the log does not hold two addresses")
	}
	if !slices.Equal(l.Addrs(), []int{1, 5}) || !slices.Equal(l.Values(), []uint64{10, 51}) {
		t.Fatal("wrong entries:", l.Addrs(), l.Values())
	}
	if v, ok := l.Get(5); v != 51 || !ok {
		t.Fatal("wrong value of 5:", v, ok)
	}
}

// P13.1, P13.2: a new log is empty, and holds as many addresses as its capacity, which is brought into its range.
func TestCapacity(t *testing.T) {
	capacities := []int{math.MinInt, math.MinInt + 1, -1 << 32, -33, -32, -2, -1,
		api.MaxWrites + 1, 2 * api.MaxWrites, 1 << 32, 1 << 62, math.MaxInt}
	for capacity := range api.MaxWrites + 1 {
		capacities = append(capacities, capacity)
	}
	for _, capacity := range capacities {
		l, m := redo.New(capacity), newModel(capacity)
		check(t, l, m, -1, 0, 1)
		for addr := range m.capacity {
			if !put(t, l, m, addr, uint64(100+addr)) {
				t.Fatal("refused:", capacity, addr)
			}
		}
		for _, addr := range []int{m.capacity, 63, 64, -1, math.MaxInt, math.MinInt} {
			if put(t, l, m, addr, 1) {
				t.Fatal("not refused:", capacity, addr)
			}
		}
	}
}

// P13.2: the number of places is the least power of two that is at least twice the capacity, and 1 without addresses.
func TestPlaces(t *testing.T) {
	for capacity, places := range map[int]int{
		-5: 1, 0: 1, 1: 2, 2: 4, 3: 8, 4: 8, 5: 16, 7: 16, 8: 16, 9: 32, 15: 32, 16: 32, 17: 64, 31: 64, 32: 64, 33: 64, 1000: 64,
	} {
		if got := redo.New(capacity).Index(); !slices.Equal(got, slices.Repeat([]int{-1}, places)) {
			t.Errorf("capacity %d: %v, want %d empty places", capacity, got, places)
		}
	}
}

// P13.2: an address alone is at its home, 5 times the address, also where this product has more than 64 bits.
func TestHome(t *testing.T) {
	addrs := []int{math.MaxInt, math.MaxInt - 1, math.MaxInt - 2, math.MaxInt/5 - 1, math.MaxInt / 5, math.MaxInt/5 + 1,
		2 * (math.MaxInt / 5), 2*(math.MaxInt/5) + 1, 2*(math.MaxInt/5) + 3, 1 << 32, 1<<32 + 7, 1 << 62, 1<<62 + 13, 1<<63 - 64}
	for addr := range 200 {
		addrs = append(addrs, addr)
	}
	for _, capacity := range []int{1, 2, 3, 4, 6, 8, 12, 16, 20, 32} {
		for _, addr := range addrs {
			l, m := redo.New(capacity), newModel(capacity)
			put(t, l, m, addr, 7)
			if l.Index()[m.home(addr)] != 0 {
				t.Fatalf("capacity %d: %d is not at home: %v", capacity, addr, l.Index())
			}
		}
	}
}

// P13.2, P13.3: an address whose home is taken goes to the next empty place; after the last one comes the first one.
func TestNextPlace(t *testing.T) {
	for _, c := range []struct {
		capacity int
		addrs    []int
		index    []int
	}{
		{1, []int{1}, []int{-1, 0}},
		{1, []int{4}, []int{0, -1}},
		{2, []int{3, 7}, []int{1, -1, -1, 0}},
		{2, []int{7, 2}, []int{-1, -1, 1, 0}},
		{3, []int{0, 8, 16}, []int{0, 1, 2, -1, -1, -1, -1, -1}},
		{4, []int{3, 11, 19, 27}, []int{1, 2, 3, -1, -1, -1, -1, 0}},
		{4, []int{3, 0, 11, 6}, []int{1, 2, -1, -1, -1, -1, 3, 0}},
		{4, []int{3, 6, 11, 14}, []int{2, 3, -1, -1, -1, -1, 1, 0}},
		{4, []int{6, 14, 3, 22}, []int{2, 3, -1, -1, -1, -1, 0, 1}},
		{4, []int{1, 0, 2, 5}, []int{1, 3, 2, -1, -1, 0, -1, -1}},
	} {
		l, m := redo.New(c.capacity), newModel(c.capacity)
		for i, addr := range c.addrs {
			put(t, l, m, addr, uint64(i))
		}
		if got := l.Index(); !slices.Equal(got, c.index) {
			t.Errorf("capacity %d, addresses %v: %v, want %v", c.capacity, c.addrs, got, c.index)
		}
	}
}

// P13.1: the value of an address that is in the log is replaced, whether the log is full or not; nothing else changes.
func TestReplace(t *testing.T) {
	for length := 1; length <= 5; length++ {
		l, m := redo.New(5), newModel(5)
		for i := range length {
			put(t, l, m, 8*i+3, uint64(i))
		}
		for round := range 3 {
			for i := length - 1; i >= 0; i-- {
				if !put(t, l, m, 8*i+3, uint64(1000*round+i)) {
					t.Fatal("refused:", length, i)
				}
			}
		}
	}
}

// P13.1: values are any words; an address with the value 0 is in the log like others.
func TestAnyValues(t *testing.T) {
	l, m := redo.New(8), newModel(8)
	for i, v := range []uint64{0, 1, math.MaxUint64, 1 << 63, math.MaxInt64, 0, 1 << 40} {
		put(t, l, m, i, v)
	}
	put(t, l, m, 2, 0)
	put(t, l, m, 0, math.MaxUint64)
	if v, ok := l.Get(2); v != 0 || !ok {
		t.Error("a value was not replaced by 0:", v, ok)
	}
	if v, ok := l.Get(7); v != 0 || ok {
		t.Error("an address that was not put has a value:", v, ok)
	}
}

// P13.1: a negative address is refused, in a log with and without free entries, and is never found.
func TestNegative(t *testing.T) {
	for _, length := range []int{0, 1, 3, 4} {
		l, m := redo.New(4), newModel(4)
		for i := range length {
			put(t, l, m, i, 5)
		}
		for _, addr := range []int{-1, -2, -3, -4, -8, -64, -1 << 32, math.MinInt + 1, math.MinInt} {
			if put(t, l, m, addr, 6) {
				t.Fatal("not refused:", addr)
			}
		}
	}
}

// P13.1: a full log refuses other addresses, again and again, and stays as it is; so does one without any capacity.
func TestFull(t *testing.T) {
	for _, capacity := range []int{0, 1, 2, 3} {
		l, m := redo.New(capacity), newModel(capacity)
		for i := range capacity {
			put(t, l, m, 4*i, 9)
		}
		for range 3 {
			for _, addr := range []int{1, 2, 3, 12, 16, 64, math.MaxInt} {
				if put(t, l, m, addr, 8) {
					t.Fatal("not refused:", capacity, addr)
				}
			}
		}
	}
}

// P13.2: Clear removes all entries; the log is one of the same capacity then, with an order and an index of its own.
func TestClear(t *testing.T) {
	l, m := redo.New(3), newModel(3)
	l.Clear()
	check(t, l, m, 0)
	for _, addrs := range [][]int{{5, 13, 21}, {21}, {13, 5}, {}, {21, 0, 8}, {7, 15, 23}} {
		for i, addr := range addrs {
			if !put(t, l, m, addr, uint64(10*addr+i)) {
				t.Fatal("refused:", addr)
			}
		}
		if len(addrs) == 3 && put(t, l, m, 77, 1) {
			t.Fatal("not full:", addrs)
		}
		l.Clear()
		m.clear()
		check(t, l, m, 0, 5, 7, 8, 13, 15, 21, 23)
	}
	none := redo.New(0)
	none.Clear()
	put(t, none, newModel(0), 1, 1)
}

// P13.2: a returned list and its log have no memory in common: neither sees what happens to the other.
func TestListsAreNew(t *testing.T) {
	l, m := redo.New(4), newModel(4)
	for _, addr := range []int{5, 6, 7} {
		put(t, l, m, addr, uint64(addr))
	}
	addrs, values, index := l.Addrs(), l.Values(), l.Index()
	addrs2, values2, index2 := l.Addrs(), l.Values(), l.Index()
	addrs[0], values[1], index[1] = 50, 60, 2
	addrs, values, index = append(addrs, 80), append(values, 80), append(index, 80)
	check(t, l, m, 50, 80)
	put(t, l, m, 8, 8)
	put(t, l, m, 5, 55)
	l.Clear()
	m.clear()
	put(t, l, m, 1, 1)
	if !slices.Equal(addrs2, []int{5, 6, 7}) || !slices.Equal(values2, []uint64{5, 6, 7}) || !slices.Equal(index2, []int{-1, 0, -1, 2, -1, -1, 1, -1}) {
		t.Error("other lists were changed:", addrs2, values2, index2)
	}
	if !slices.Equal(addrs, []int{50, 6, 7, 80}) || !slices.Equal(values, []uint64{5, 60, 7, 80}) || !slices.Equal(index, []int{-1, 2, -1, 2, -1, -1, 1, -1, 80}) {
		t.Error("the log changed a list:", addrs, values, index)
	}
}

// P13.1: logs have nothing in common.
func TestLogsAreApart(t *testing.T) {
	one, two := redo.New(2), redo.New(2)
	m1, m2 := newModel(2), newModel(2)
	put(t, one, m1, 5, 1)
	check(t, two, m2, 5)
	put(t, two, m2, 6, 2)
	put(t, two, m2, 5, 3)
	put(t, one, m1, 8, 4)
	check(t, one, m1, 5, 6)
	two.Clear()
	m2.clear()
	check(t, one, m1, 5, 6, 8)
	check(t, two, m2, 5, 6, 8)
}

// reached reports whether an address is found from its home on before an empty place.
func reached(m *model, index, addrs []int, addr int) bool {
	for p := m.home(addr); index[p] >= 0; p = (p + 1) % len(index) {
		if addrs[index[p]] == addr {
			return true
		}
	}
	return false
}

// P13.1 to P13.3: long sequences of calls, compared with the model; every address is found from its home on.
func TestManyCalls(t *testing.T) {
	r := rand.New(rand.NewSource(13))
	refused, replaced, moved := 0, 0, 0
	for round := range 600 {
		capacity := r.Intn(api.MaxWrites+5) - 2
		l, m := redo.New(capacity), newModel(capacity)
		// Multiples of a power of two have few homes.
		step := 1 << r.Intn(7)
		for range 100 {
			if r.Intn(60) == 0 {
				l.Clear()
				m.clear()
			}
			addr := step*r.Intn(64) + round%2*r.Intn(2) - r.Intn(30)/29
			if slices.Contains(m.addrs, addr) {
				replaced++
			}
			if !put(t, l, m, addr, r.Uint64()) {
				refused++
			}
			check(t, l, m, step*r.Intn(64))
			index, addrs := l.Index(), l.Addrs()
			for i, a := range addrs {
				if !reached(m, index, addrs, a) {
					t.Fatalf("%d is not found from its home on: %v, %v", a, addrs, index)
				}
				if index[m.home(a)] != i {
					moved++
				}
			}
		}
	}
	if refused < 1000 || replaced < 1000 || moved < 10000 {
		t.Error("too little has happened:", refused, replaced, moved)
	}
}

// P13.2: a nil log has nothing, takes nothing, and stays as it is.
func TestNil(t *testing.T) {
	var l *redo.Log
	for range 2 {
		for _, addr := range []int{math.MinInt, -1, 0, 1, 63, math.MaxInt} {
			if l.Put(addr, 1) {
				t.Fatal("not refused:", addr)
			}
			if v, ok := l.Get(addr); v != 0 || ok {
				t.Fatal("found:", addr, v, ok)
			}
		}
		if l.Len() != 0 || len(l.Addrs()) != 0 || len(l.Values()) != 0 || len(l.Index()) != 0 {
			t.Fatal("not empty:", l.Addrs(), l.Values(), l.Index())
		}
		l.Clear()
		if l != nil {
			t.Fatal("not nil any more")
		}
	}
}
