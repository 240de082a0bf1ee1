package readset_test

import (
	"math"
	"math/rand"
	"slices"
	"testing"

	"strongtx/api"
	"strongtx/readset"
)

// check compares a set with the list that it should have, and looks for each of some numbers in it.
func check(t *testing.T, s *readset.Set, want []int, numbers ...int) {
	t.Helper()
	if got := s.List(); !slices.Equal(got, want) || s.Len() != len(want) {
		t.Fatalf("%v, length %d; want %v", got, s.Len(), want)
	}
	for _, n := range append(numbers, want...) {
		if s.Has(n) != slices.Contains(want, n) {
			t.Fatalf("Has(%d) is %t, but the list is %v", n, s.Has(n), want)
		}
	}
}

func add(t *testing.T, s *readset.Set, orec int, want bool) {
	t.Helper()
	if got := s.Add(orec); got != want {
		t.Fatalf("Add(%d) is %t; the list is %v", orec, got, s.List())
	}
}

// The chapter's example.
func TestExample(t *testing.T) {
	s := readset.New(2)
	add(t, s, 5, true)
	add(t, s, 6, true)
	add(t, s, 5, true)
	add(t, s, 7, false)
	check(t, s, []int{5, 6}, 7)
}

// P12.1: a new set is empty, and holds as many elements as its capacity, which is brought into its range.
func TestCapacity(t *testing.T) {
	held := map[int]int{
		math.MinInt: 0, math.MinInt + 1: 0, -33: 0, -32: 0, -2: 0, -1: 0,
		api.MaxReads + 1: api.MaxReads, 2 * api.MaxReads: api.MaxReads, 1 << 32: api.MaxReads, math.MaxInt: api.MaxReads,
	}
	for capacity := range api.MaxReads + 1 {
		held[capacity] = capacity
	}
	for capacity, most := range held {
		s := readset.New(capacity)
		check(t, s, nil, 0, 1, -1)
		var want []int
		for orec := range most {
			add(t, s, orec, true)
			want = append(want, orec)
			check(t, s, want, orec+1)
		}
		add(t, s, most, false)
		add(t, s, -1, false)
		check(t, s, want, most, -1)
	}
}

// P12.1: an element that is in the set already is added with true, without a change, whether the set is full or not.
func TestAddAgain(t *testing.T) {
	for length := 1; length <= 5; length++ {
		s := readset.New(5)
		var want []int
		for orec := range length {
			add(t, s, 9-orec, true)
			want = append(want, 9-orec)
		}
		for _, orec := range append(slices.Clone(want), want...) {
			add(t, s, orec, true)
			check(t, s, want, 0)
		}
	}
}

// P12.1: a full set refuses what it does not have, again and again, and stays as it is.
func TestFull(t *testing.T) {
	s := readset.New(3)
	for _, orec := range []int{4, 0, 2} {
		add(t, s, orec, true)
	}
	for range 3 {
		for _, orec := range []int{1, 3, 5, -1, 64} {
			add(t, s, orec, false)
			check(t, s, []int{4, 0, 2}, 1, 3, 5, -1, 64)
		}
		add(t, s, 0, true)
	}
	check(t, s, []int{4, 0, 2}, 1, 3, 5)
}

// P12.1: 0 is an element like others; a set without it does not have it.
func TestZero(t *testing.T) {
	s := readset.New(4)
	add(t, s, 1, true)
	check(t, s, []int{1}, 0)
	add(t, s, 0, true)
	check(t, s, []int{1, 0}, 2)
	add(t, s, 0, true)
	check(t, s, []int{1, 0}, 2)
}

// P12.1: the order is that of the additions, not that of the numbers, and elements are any integers.
func TestAnyIntegers(t *testing.T) {
	orecs := []int{math.MaxInt, -1, math.MinInt, 64, 0, 63, -64, 1 << 32, -1 << 32, 1<<32 + 63, 1, math.MinInt + 1, math.MaxInt - 1}
	s := readset.New(len(orecs))
	for i, orec := range orecs {
		add(t, s, orec, true)
		check(t, s, orecs[:i+1], orecs...)
	}
	add(t, s, 2, false)
	check(t, s, orecs, 2, 65, -63)
}

// P12.1: Clear removes all elements; the set is one of the same capacity then, with an order of its own.
func TestClear(t *testing.T) {
	s := readset.New(3)
	s.Clear()
	check(t, s, nil, 0)
	for _, orecs := range [][]int{{5, 6, 7}, {7}, {6, 5}, {}, {0, 7, 5}, {8, 9, 10}} {
		for _, orec := range orecs {
			add(t, s, orec, true)
		}
		check(t, s, orecs, 0, 5, 6, 7, 8)
		if len(orecs) == 3 {
			add(t, s, 77, false)
		}
		s.Clear()
		check(t, s, nil, 0, 5, 6, 7, 8)
	}
	none := readset.New(0)
	none.Clear()
	add(t, none, 1, false)
	check(t, none, nil, 0, 1)
}

// P12.1: a returned list and its set have no memory in common: neither sees what happens to the other.
func TestListIsNew(t *testing.T) {
	s := readset.New(4)
	add(t, s, 5, true)
	add(t, s, 6, true)
	add(t, s, 7, true)
	first, second := s.List(), s.List()
	first[0], first[2] = 50, 70
	first = append(first, 80)
	check(t, s, []int{5, 6, 7}, 50, 70, 80)
	if !slices.Equal(second, []int{5, 6, 7}) {
		t.Error("another list was changed:", second)
	}
	add(t, s, 8, true)
	s.Clear()
	add(t, s, 1, true)
	add(t, s, 2, true)
	if !slices.Equal(first, []int{50, 6, 70, 80}) || !slices.Equal(second, []int{5, 6, 7}) {
		t.Error("the set changed a list:", first, second)
	}
	check(t, s, []int{1, 2}, 5, 6, 7, 8, 50, 70, 80)
}

// P12.1: sets have nothing in common.
func TestSetsAreApart(t *testing.T) {
	one, two := readset.New(2), readset.New(2)
	add(t, one, 5, true)
	check(t, two, nil, 5)
	add(t, two, 6, true)
	add(t, two, 7, true)
	add(t, one, 8, true)
	check(t, one, []int{5, 8}, 6, 7)
	two.Clear()
	check(t, one, []int{5, 8}, 6, 7)
	check(t, two, nil, 5, 6, 7, 8)
}

// P12.1: long sequences of calls, compared with a list that is kept beside the set.
func TestManyCalls(t *testing.T) {
	r := rand.New(rand.NewSource(12))
	refused, again := 0, 0
	for range 500 {
		capacity := r.Intn(api.MaxReads+5) - 2
		most := min(max(capacity, 0), api.MaxReads)
		s := readset.New(capacity)
		var want []int
		for range 200 {
			orec := r.Intn(api.MaxOrecs)
			switch {
			case r.Intn(100) == 0:
				s.Clear()
				want = nil
			case slices.Contains(want, orec):
				add(t, s, orec, true)
				again++
			case len(want) == most:
				add(t, s, orec, false)
				refused++
			default:
				add(t, s, orec, true)
				want = append(want, orec)
			}
			check(t, s, want, r.Intn(api.MaxOrecs))
		}
	}
	if refused < 1000 || again < 1000 {
		t.Error("too little has happened:", refused, again)
	}
}

// P12.2: a nil set has nothing, takes nothing, and stays as it is.
func TestNil(t *testing.T) {
	var s *readset.Set
	for range 2 {
		for _, orec := range []int{math.MinInt, -1, 0, 1, 63, math.MaxInt} {
			add(t, s, orec, false)
			check(t, s, nil, orec)
		}
		s.Clear()
		if s != nil {
			t.Fatal("not nil any more")
		}
	}
}
