package freelist_test

import (
	"math"
	"math/rand"
	"reflect"
	"slices"
	"testing"

	"strongtx/api"
	"strongtx/cells"
	"strongtx/freelist"
)

// none is the number of no block.
const none = -1

// tag is the factor of a tag in the word of a head.
const tag = 65536

// greatestTag is the part of a head that has the last tag.
const greatestTag uint64 = (1<<48 - 1) * tag

// noClasses are numbers of which no class has one.
var noClasses = []int{math.MinInt, math.MinInt + 1, -65536, -2, -1, 4, 5, 64, 1 << 32, math.MaxInt - 1, math.MaxInt}

// create returns cells with the blocks 0, 1 and 2 of class 0, 3 and 4 of class 1, none of class 2, and 5 of class 3.
func create(t *testing.T) *cells.Mem {
	t.Helper()
	c := api.Config{Words: 32, Orecs: 4, Base: 4, Count: [api.Classes]int{3, 2, 0, 1}, Reads: 4, Writes: 4, Clock: api.MaxVersion}
	m, e := cells.New(c, 3, slices.Repeat([]uint64{9, 8}, 16))
	if e != api.OK {
		t.Fatal(e)
	}
	put(t, m, api.CellClock, 0, 77)
	put(t, m, api.CellTicket, 0, 6)
	put(t, m, api.CellServing, 0, 5)
	return m
}

func put(t *testing.T, m *cells.Mem, cell, index int, v uint64) {
	t.Helper()
	if _, e := m.Store(cell, index, v); e != api.OK {
		t.Fatal(cell, index, e)
	}
}

// loaded is the access of a load.
func loaded(cell, index int, v uint64) api.Access {
	return api.Access{Kind: api.AccLoad, Cell: cell, Index: index, Got: v, Put: v, Done: true}
}

// linked is the access that stores what is below a block.
func linked(block int, got, put uint64) api.Access {
	return api.Access{Kind: api.AccStore, Cell: api.CellNext, Index: block, Got: got, Put: put, Done: true}
}

// swapped is the access of a swap of a head that is done.
func swapped(class int, got, put uint64) api.Access {
	return api.Access{Kind: api.AccSwap, Cell: api.CellHead, Index: class, Got: got, Put: put, Done: true}
}

// failed is the access of a swap that found another head.
func failed(class int, got uint64) api.Access {
	return api.Access{Kind: api.AccSwap, Cell: api.CellHead, Index: class, Got: got, Put: got}
}

func checkAccess(t *testing.T, got, want api.Access) {
	t.Helper()
	if got != want {
		t.Fatalf("%v, want %v", got, want)
	}
}

func checkPop(t *testing.T, p *freelist.Pop, block int, done bool) {
	t.Helper()
	if p.Block() != block || p.Done() != done {
		t.Fatalf("block %d, done %v; want %d, %v", p.Block(), p.Done(), block, done)
	}
}

// checkLists checks that all cells are those of create, but for the heads and the next blocks.
func checkLists(t *testing.T, m *cells.Mem, head, next []uint64) {
	t.Helper()
	want := create(t).Image()
	want.Head, want.Next = head, next
	if i := m.Image(); !reflect.DeepEqual(i, want) {
		t.Fatalf("%v, want %v", i, want)
	}
}

// pop performs a whole pop.
func pop(t *testing.T, m *cells.Mem, class int) int {
	t.Helper()
	p := freelist.NewPop(class)
	for range 3 {
		p.Step(m)
	}
	if !p.Done() {
		t.Fatal("a pop alone has not finished")
	}
	return p.Block()
}

// push performs a whole push.
func push(t *testing.T, m *cells.Mem, class, block int) {
	t.Helper()
	p := freelist.NewPush(class, block)
	for range 3 {
		if p.Done() {
			t.Fatal("a push has finished too early")
		}
		p.Step(m)
	}
	if !p.Done() {
		t.Fatal("a push alone has not finished")
	}
}

// checkPopped performs a pop alone that takes a block, with the heads before and after it.
func checkPopped(t *testing.T, m *cells.Mem, class, block int, next, before, after uint64) {
	t.Helper()
	p := freelist.NewPop(class)
	checkPop(t, p, none, false)
	checkAccess(t, p.Step(m), loaded(api.CellHead, class, before))
	checkPop(t, p, none, false)
	checkAccess(t, p.Step(m), loaded(api.CellNext, block, next))
	checkPop(t, p, none, false)
	checkAccess(t, p.Step(m), swapped(class, before, after))
	checkPop(t, p, block, true)
}

// checkEmpty performs a pop of a list with this head, which has no top.
func checkEmpty(t *testing.T, m *cells.Mem, class int, head uint64) {
	t.Helper()
	p := freelist.NewPop(class)
	checkPop(t, p, none, false)
	checkAccess(t, p.Step(m), loaded(api.CellHead, class, head))
	checkPop(t, p, none, true)
}

// checkPushed performs a push alone, with the next block, counted from 1, and the head before and after it.
func checkPushed(t *testing.T, m *cells.Mem, class, block int, oldNext, next, before, after uint64) {
	t.Helper()
	p := freelist.NewPush(class, block)
	for _, want := range []api.Access{loaded(api.CellHead, class, before), linked(block, oldNext, next), swapped(class, before, after)} {
		if p.Done() {
			t.Fatal("done before", want)
		}
		checkAccess(t, p.Step(m), want)
	}
	if !p.Done() {
		t.Fatal("not done")
	}
}

// P11.1: pops of all classes one after another, until their lists are empty.
func TestPop(t *testing.T) {
	m := create(t)
	next := []uint64{2, 3, 0, 5, 0, 0}
	checkLists(t, m, []uint64{1, 4, 0, 6}, next)
	checkPopped(t, m, 0, 0, 2, 1, tag+2)
	checkLists(t, m, []uint64{tag + 2, 4, 0, 6}, next)
	checkPopped(t, m, 0, 1, 3, tag+2, 2*tag+3)
	checkPopped(t, m, 0, 2, 0, 2*tag+3, 3*tag)
	checkLists(t, m, []uint64{3 * tag, 4, 0, 6}, next)
	checkEmpty(t, m, 0, 3*tag)
	checkPopped(t, m, 1, 3, 5, 4, tag+5)
	checkPopped(t, m, 1, 4, 0, tag+5, 2*tag)
	checkEmpty(t, m, 1, 2*tag)
	checkEmpty(t, m, 2, 0)
	checkPopped(t, m, 3, 5, 0, 6, tag)
	checkEmpty(t, m, 3, tag)
	checkLists(t, m, []uint64{3 * tag, 2 * tag, 0, tag}, next)
}

// P11.1: pushes on lists that are empty or not, whatever the next block was before.
func TestPush(t *testing.T) {
	m := create(t)
	for class := range api.Classes {
		for range 4 {
			pop(t, m, class)
		}
	}
	put(t, m, api.CellNext, 2, 4)
	checkPushed(t, m, 0, 1, 3, 0, 3*tag, 4*tag+2)
	checkLists(t, m, []uint64{4*tag + 2, 2 * tag, 0, tag}, []uint64{2, 0, 4, 5, 0, 0})
	checkPushed(t, m, 0, 2, 4, 2, 4*tag+2, 5*tag+3)
	checkPushed(t, m, 0, 0, 2, 3, 5*tag+3, 6*tag+1)
	checkLists(t, m, []uint64{6*tag + 1, 2 * tag, 0, tag}, []uint64{3, 0, 2, 5, 0, 0})
	checkPushed(t, m, 1, 3, 5, 0, 2*tag, 3*tag+4)
	checkPushed(t, m, 1, 4, 0, 4, 3*tag+4, 4*tag+5)
	checkPushed(t, m, 2, 5, 0, 0, 0, tag+6)
	checkLists(t, m, []uint64{6*tag + 1, 4*tag + 5, tag + 6, tag}, []uint64{3, 0, 2, 0, 4, 0})
	for _, block := range []int{0, 2, 1, none} {
		if b := pop(t, m, 0); b != block {
			t.Error(b, block)
		}
	}
}

// P11.1: the tag after the greatest one is 0.
func TestTagsWrap(t *testing.T) {
	m := create(t)
	put(t, m, api.CellHead, 0, greatestTag+1)
	checkPopped(t, m, 0, 0, 2, greatestTag+1, 2)
	checkPopped(t, m, 0, 1, 3, 2, tag+3)
	put(t, m, api.CellHead, 1, greatestTag+5)
	checkPushed(t, m, 1, 3, 5, 5, greatestTag+5, 4)
	put(t, m, api.CellHead, 2, greatestTag)
	checkEmpty(t, m, 2, greatestTag)
	checkPushed(t, m, 2, 0, 2, 0, greatestTag, 1)
}

// P11.1: a pop whose swap finds another head begins again, as often as it has to: also if the top is the same one.
func TestPopBeginsAgain(t *testing.T) {
	m := create(t)
	p := freelist.NewPop(0)
	head := uint64(1)
	for _, other := range []uint64{7*tag + 1, 8*tag + 1, 8*tag + 2, 9*tag + 3, 9*tag + 1} {
		top := int(head%tag) - 1
		checkAccess(t, p.Step(m), loaded(api.CellHead, 0, head))
		checkAccess(t, p.Step(m), loaded(api.CellNext, top, []uint64{2, 3, 0}[top]))
		put(t, m, api.CellHead, 0, other)
		checkAccess(t, p.Step(m), failed(0, other))
		checkPop(t, p, none, false)
		head = other
	}
	checkAccess(t, p.Step(m), loaded(api.CellHead, 0, head))
	put(t, m, api.CellNext, 0, 3)
	checkAccess(t, p.Step(m), loaded(api.CellNext, 0, 3))
	put(t, m, api.CellNext, 0, 2)
	checkAccess(t, p.Step(m), swapped(0, head, 10*tag+3))
	checkPop(t, p, 0, true)
}

// P11.1: a pop that has to begin again finishes without a block if the list is empty then.
func TestPopFindsNothingAgain(t *testing.T) {
	m := create(t)
	p := freelist.NewPop(3)
	p.Step(m)
	p.Step(m)
	if b := pop(t, m, 3); b != 5 {
		t.Fatal(b)
	}
	checkAccess(t, p.Step(m), failed(3, tag))
	checkPop(t, p, none, false)
	checkAccess(t, p.Step(m), loaded(api.CellHead, 3, tag))
	checkPop(t, p, none, true)
}

// P11.1: a push whose swap finds another head begins again, and links its block to the new top.
func TestPushBeginsAgain(t *testing.T) {
	m := create(t)
	p := freelist.NewPush(0, 5)
	head, next := uint64(1), uint64(0)
	for _, other := range []uint64{7*tag + 1, 8*tag + 1, 8*tag + 2, 9 * tag, 9*tag + 3} {
		checkAccess(t, p.Step(m), loaded(api.CellHead, 0, head))
		checkAccess(t, p.Step(m), linked(5, next, head%tag))
		put(t, m, api.CellHead, 0, other)
		checkAccess(t, p.Step(m), failed(0, other))
		if p.Done() {
			t.Fatal("done without a swap")
		}
		head, next = other, head%tag
	}
	checkAccess(t, p.Step(m), loaded(api.CellHead, 0, head))
	checkAccess(t, p.Step(m), linked(5, next, 3))
	checkAccess(t, p.Step(m), swapped(0, head, 10*tag+6))
	if !p.Done() {
		t.Fatal("not done")
	}
	checkLists(t, m, []uint64{10*tag + 6, 4, 0, 6}, []uint64{2, 3, 0, 5, 0, 3})
}

// P11.1: a machine that has finished does nothing, whatever the cells are.
func TestFinished(t *testing.T) {
	m := create(t)
	full, empty, back := freelist.NewPop(0), freelist.NewPop(2), freelist.NewPush(2, 0)
	for range 3 {
		full.Step(m)
	}
	empty.Step(m)
	for range 3 {
		back.Step(m)
	}
	for _, head := range []uint64{0, 1, tag + 1, 2, 3 * tag} {
		put(t, m, api.CellHead, 0, head)
		put(t, m, api.CellHead, 2, head)
		for range 4 {
			checkAccess(t, full.Step(m), api.Access{})
			checkPop(t, full, 0, true)
			checkAccess(t, empty.Step(m), api.Access{})
			checkPop(t, empty, none, true)
			checkAccess(t, back.Step(m), api.Access{})
			if !back.Done() {
				t.Fatal("not done any more")
			}
		}
		checkLists(t, m, []uint64{head, 4, head, 6}, []uint64{0, 3, 0, 5, 0, 0})
	}
}

// P11.1: the head of a class that does not exist is as if it were 0: a pop finds nothing, and a push finishes without a list.
func TestNoClass(t *testing.T) {
	for _, class := range noClasses {
		m := create(t)
		p := freelist.NewPop(class)
		checkAccess(t, p.Step(m), api.Access{})
		checkPop(t, p, none, true)
		checkAccess(t, p.Step(m), api.Access{})
		checkLists(t, m, []uint64{1, 4, 0, 6}, []uint64{2, 3, 0, 5, 0, 0})

		u := freelist.NewPush(class, 1)
		checkAccess(t, u.Step(m), api.Access{})
		checkAccess(t, u.Step(m), linked(1, 3, 0))
		if u.Done() {
			t.Fatal("done before the swap")
		}
		checkAccess(t, u.Step(m), api.Access{})
		if !u.Done() {
			t.Fatal("not done")
		}
		checkAccess(t, u.Step(m), api.Access{})
		checkLists(t, m, []uint64{1, 4, 0, 6}, []uint64{2, 0, 0, 5, 0, 0})
	}
}

// P11.1: a push of a number that is no block of any configuration finishes, and the list stays as it is.
func TestPushOfNoBlock(t *testing.T) {
	for _, block := range []int{math.MinInt, math.MinInt + 1, -65537, -2, 64, 65, 65535, 65536, 1 << 32, math.MaxInt - 1, math.MaxInt} {
		m := create(t)
		p := freelist.NewPush(0, block)
		checkAccess(t, p.Step(m), loaded(api.CellHead, 0, 1))
		checkAccess(t, p.Step(m), api.Access{})
		checkAccess(t, p.Step(m), api.Access{})
		if !p.Done() {
			t.Fatal(block, "not done")
		}
		checkAccess(t, p.Step(m), api.Access{})
		checkLists(t, m, []uint64{1, 4, 0, 6}, []uint64{2, 3, 0, 5, 0, 0})
	}
}

// P11.1: machines have nothing in common but the cells, and several cells nothing at all.
func TestMachinesAreApart(t *testing.T) {
	here, there := create(t), create(t)
	one, two, far := freelist.NewPop(0), freelist.NewPop(1), freelist.NewPop(0)
	first, second := freelist.NewPush(2, 5), freelist.NewPush(3, 2)
	checkAccess(t, one.Step(here), loaded(api.CellHead, 0, 1))
	checkAccess(t, first.Step(here), loaded(api.CellHead, 2, 0))
	checkAccess(t, two.Step(here), loaded(api.CellHead, 1, 4))
	checkAccess(t, far.Step(there), loaded(api.CellHead, 0, 1))
	checkAccess(t, second.Step(there), loaded(api.CellHead, 3, 6))
	checkAccess(t, two.Step(here), loaded(api.CellNext, 3, 5))
	checkAccess(t, one.Step(here), loaded(api.CellNext, 0, 2))
	checkAccess(t, first.Step(here), linked(5, 0, 0))
	checkAccess(t, second.Step(there), linked(2, 0, 6))
	checkAccess(t, one.Step(here), swapped(0, 1, tag+2))
	checkPop(t, one, 0, true)
	checkPop(t, two, none, false)
	checkPop(t, far, none, false)
	checkAccess(t, two.Step(here), swapped(1, 4, tag+5))
	checkPop(t, two, 3, true)
	checkAccess(t, first.Step(here), swapped(2, 0, tag+6))
	if !first.Done() || second.Done() {
		t.Error(first.Done(), second.Done())
	}
	checkLists(t, here, []uint64{tag + 2, tag + 5, tag + 6, 6}, []uint64{2, 3, 0, 5, 0, 0})
	checkLists(t, there, []uint64{1, 4, 0, 6}, []uint64{2, 3, 6, 5, 0, 0})
}

// The chapter's example, with the steps that follow.
func TestExample(t *testing.T) {
	m := create(t)
	put(t, m, api.CellNext, 1, 0)
	a, b, back := freelist.NewPop(0), freelist.NewPop(0), freelist.NewPush(0, 0)
	checkAccess(t, a.Step(m), loaded(api.CellHead, 0, 1))
	checkAccess(t, a.Step(m), loaded(api.CellNext, 0, 2))
	for range 3 {
		b.Step(m)
	}
	checkPop(t, b, 0, true)
	for range 3 {
		back.Step(m)
	}
	checkLists(t, m, []uint64{2*tag + 1, 4, 0, 6}, []uint64{2, 0, 0, 5, 0, 0})
	checkAccess(t, a.Step(m), failed(0, 2*tag+1))
	checkAccess(t, a.Step(m), loaded(api.CellHead, 0, 2*tag+1))
	checkAccess(t, a.Step(m), loaded(api.CellNext, 0, 2))
	checkAccess(t, a.Step(m), swapped(0, 2*tag+1, 3*tag+2))
	checkPop(t, a, 0, true)
}

func checkList(t *testing.T, i api.Image, class int, want []int, wantError api.Errno) {
	t.Helper()
	blocks, e := freelist.List(i, class)
	if e != wantError || !slices.Equal(blocks, want) {
		t.Errorf("class %d of %v: %v, %d; want %v, %d", class, i, blocks, e, want, wantError)
	}
}

// P11.2: the lists of new cells, and of some that were changed.
func TestList(t *testing.T) {
	m := create(t)
	for class, want := range [][]int{{0, 1, 2}, {3, 4}, {}, {5}} {
		checkList(t, m.Image(), class, want, api.OK)
	}
	pop(t, m, 0)
	pop(t, m, 0)
	pop(t, m, 3)
	push(t, m, 1, 0)
	push(t, m, 2, 1)
	for class, want := range [][]int{{2}, {0, 3, 4}, {1}, {}} {
		checkList(t, m.Image(), class, want, api.OK)
	}
}

// P11.2: lists of images that are written out: of any tags, in any order, of one class as of several.
func TestListOfImages(t *testing.T) {
	for _, x := range []struct {
		head, next []uint64
		want       [][]int
	}{
		{[]uint64{0, 0, 0, 0}, nil, [][]int{{}, {}, {}, {}}},
		{[]uint64{greatestTag, tag, 2 * tag, 0}, []uint64{1, 9, 2}, [][]int{{}, {}, {}, {}}},
		{[]uint64{greatestTag + 1, tag + 3, 2*tag + 2, 0}, []uint64{0, 0, 1}, [][]int{{0}, {2, 0}, {1}, {}}},
		{[]uint64{5, 3, 1, 1}, []uint64{2, 0, 2, 3, 4}, [][]int{{4, 3, 2, 1}, {2, 1}, {0, 1}, {0, 1}}},
		{[]uint64{0, 0, 0, 4}, []uint64{0, 1, 2, 3}, [][]int{{}, {}, {}, {3, 2, 1, 0}}},
	} {
		for class, want := range x.want {
			checkList(t, api.Image{Head: x.head, Next: x.next}, class, want, api.OK)
		}
	}
}

// P11.2: ErrRange, also where the chain has an error.
func TestListRange(t *testing.T) {
	good := create(t).Image()
	bad := create(t).Image()
	bad.Head = []uint64{60, 60, 60, 60}
	for _, class := range noClasses {
		checkList(t, good, class, nil, api.ErrRange)
		checkList(t, bad, class, nil, api.ErrRange)
		checkList(t, api.Image{}, class, nil, api.ErrRange)
	}
	for _, heads := range []int{0, 1, 2, 3, 5, 6, 64} {
		for class := range api.Classes {
			short, broken := good, bad
			short.Head, broken.Head = make([]uint64, heads), slices.Repeat([]uint64{60}, heads)
			checkList(t, short, class, nil, api.ErrRange)
			checkList(t, broken, class, nil, api.ErrRange)
		}
	}
	checkList(t, api.Image{}, 0, nil, api.ErrRange)
}

// P11.2: ErrTrace for a block that is not an index of Next: at the top, and below.
func TestListOfNoBlocks(t *testing.T) {
	for _, link := range []uint64{4, 5, 64, 65, 66, 1000, 65534, 65535} {
		checkList(t, api.Image{Head: []uint64{0, link, 0, 0}, Next: []uint64{0, 0, 0}}, 1, nil, api.ErrTrace)
		checkList(t, api.Image{Head: []uint64{0, 7*tag + link, 0, 0}, Next: []uint64{0, 0, 0}}, 1, nil, api.ErrTrace)
	}
	checkList(t, api.Image{Head: []uint64{1, 0, 0, 0}}, 0, nil, api.ErrTrace)
	for _, link := range []uint64{4, 5, 65, 65536, 65537, 1 << 32, 1<<32 + 1, math.MaxInt64, 1 << 63, 1<<63 + 1, math.MaxUint64 - 1, math.MaxUint64} {
		checkList(t, api.Image{Head: []uint64{0, 0, 1, 0}, Next: []uint64{link, 0, 0}}, 2, nil, api.ErrTrace)
		checkList(t, api.Image{Head: []uint64{0, 0, 1, 0}, Next: []uint64{2, 3, link}}, 2, nil, api.ErrTrace)
		checkList(t, api.Image{Head: []uint64{0, 0, 2, 0}, Next: []uint64{link, 0, 0}}, 2, []int{1}, api.OK)
	}
}

// P11.2: ErrTrace for a block that occurs twice, at each length of the chain and of the circle.
func TestListOfCircles(t *testing.T) {
	for length := 1; length <= 10; length++ {
		for back := range length {
			next := make([]uint64, length)
			for b := range next {
				next[b] = uint64(b) + 2
			}
			next[length-1] = uint64(back) + 1
			for top := range length {
				checkList(t, api.Image{Head: []uint64{0, 0, 0, uint64(top) + 1}, Next: next}, 3, nil, api.ErrTrace)
			}
			next[length-1] = 0
			want := make([]int, length)
			for b := range want {
				want[b] = b
			}
			checkList(t, api.Image{Head: []uint64{0, 0, 0, 1}, Next: next}, 3, want, api.OK)
		}
	}
}

// P11.2: images of more blocks than a configuration has. The chain goes from the block 65533 down to 0, and from the last block down to 65534.
func TestListIsLong(t *testing.T) {
	const blocks = 70000
	next := make([]uint64, blocks)
	for b := range next {
		next[b] = uint64(b)
	}
	next[0], next[65534] = blocks, 0
	var want []int
	for k := range blocks {
		want = append(want, (65533-k+blocks)%blocks)
	}
	checkList(t, api.Image{Head: []uint64{65534, 0, 0, 0}, Next: next}, 0, want, api.OK)
	next[65534] = 65534
	checkList(t, api.Image{Head: []uint64{65534, 0, 0, 0}, Next: next}, 0, nil, api.ErrTrace)
}

// P11.2: the image is not changed, and the result is new.
func TestListIsNew(t *testing.T) {
	i := create(t).Image()
	first, _ := freelist.List(i, 0)
	for k := range first {
		first[k] = 77
	}
	checkList(t, i, 0, []int{0, 1, 2}, api.OK)
	if want := create(t).Image(); !reflect.DeepEqual(i, want) {
		t.Error(i, want)
	}
}

// A machine is a Pop or a Push.
type machine interface {
	Step(m *cells.Mem) api.Access
	Done() bool
}

// A client has a program, whose letters stand for machines: 0 to 3 pop from the list of this class, and a to d push the block that was popped first, if any, on that of the class 0 to 3.
type client struct {
	program string
	machine machine
	held    []int // blocks that were popped, without those that were pushed
}

// start makes the machine of the next letter; there is none if the program is over.
func (c *client) start() {
	for c.machine == nil && c.program != "" {
		letter := c.program[0]
		c.program = c.program[1:]
		if letter < 'a' {
			c.machine = freelist.NewPop(int(letter - '0'))
		} else if len(c.held) > 0 {
			c.machine = freelist.NewPush(int(letter-'a'), c.held[0])
		}
	}
}

// A world has clients with the same cells, and counts what has happened.
type world struct {
	m       *cells.Mem
	clients []*client
	again   int // swaps that failed
	nothing int // pops that found no block
	popped  int
	pushed  int
}

func newWorld(t *testing.T, programs []string) *world {
	w := &world{m: create(t)}
	for _, p := range programs {
		c := &client{program: p}
		c.start()
		w.clients = append(w.clients, c)
	}
	return w
}

// over reports whether a client has nothing more to do.
func (w *world) over(number int) bool {
	return w.clients[number].machine == nil
}

// pick performs one step of a client, and checks that a pop finds no block only where the list is empty.
func (w *world) pick(t *testing.T, number int) {
	t.Helper()
	if w.over(number) {
		return
	}
	c := w.clients[number]
	a := c.machine.Step(w.m)
	if a.Kind == api.AccSwap && !a.Done {
		w.again++
	}
	if !c.machine.Done() {
		return
	}
	switch u := c.machine.(type) {
	case *freelist.Pop:
		w.finishPop(t, c, u.Block(), a)
	case *freelist.Push:
		c.held = c.held[1:]
		w.pushed++
	}
	c.machine = nil
	c.start()
}

// finishPop keeps a block that was popped; its last step is a swap of the head if there is one, and otherwise the load of a head without a top.
func (w *world) finishPop(t *testing.T, c *client, block int, last api.Access) {
	t.Helper()
	if block != none {
		c.held = append(c.held, block)
		w.popped++
		return
	}
	w.nothing++
	if last.Kind != api.AccLoad || last.Cell != api.CellHead {
		t.Fatalf("a pop without a block finished by %v", last)
	}
	if blocks, e := freelist.List(w.m.Image(), last.Index); len(blocks) > 0 || e != api.OK {
		t.Fatalf("a pop found no block, but the list of class %d is %v, %d", last.Index, blocks, e)
	}
}

// check checks that each block is in one list, or was popped by one client and not pushed since.
func (w *world) check(t *testing.T, picks []int) {
	t.Helper()
	i := w.m.Image()
	var places [6]int
	for class := range api.Classes {
		blocks, e := freelist.List(i, class)
		if e != api.OK {
			t.Fatalf("picks %v: class %d of %v: %d", picks, class, i, e)
		}
		for _, b := range blocks {
			places[b]++
		}
	}
	for _, c := range w.clients {
		for _, b := range c.held {
			places[b]++
		}
	}
	if places != [6]int{1, 1, 1, 1, 1, 1} {
		t.Fatalf("picks %v: the blocks are in %v places", picks, places)
	}
}

// add adds the counts of another world.
func (w *world) add(other *world) {
	w.again += other.again
	w.nothing += other.nothing
	w.popped += other.popped
	w.pushed += other.pushed
}

// run performs picks.
func run(t *testing.T, programs []string, picks []int) *world {
	t.Helper()
	w := newWorld(t, programs)
	for _, p := range picks {
		w.pick(t, p)
	}
	return w
}

// visit checks the world after each of the schedules that begin with some picks, up to a length or the end of the programs. It adds to the sum what has happened.
func visit(t *testing.T, programs []string, picks []int, length int, sum *world) {
	t.Helper()
	w := run(t, programs, picks)
	w.check(t, picks)
	last := true
	for number := range programs {
		if len(picks) < length && !w.over(number) {
			last = false
			visit(t, programs, append(picks, number), length, sum)
		}
	}
	if last {
		sum.add(w)
	}
}

// P11.3: all schedules of some clients up to a length. In the first ones, a client takes two blocks and puts the first one back, while another one has loaded it and the block below.
func TestAllSchedules(t *testing.T) {
	nothing := 0
	for _, x := range []struct {
		programs []string
		length   int
	}{
		{[]string{"0", "00aa"}, 14},
		{[]string{"0a", "00aa"}, 14},
		{[]string{"0a00", "00a"}, 14},
		{[]string{"3d3d", "3d3d"}, 14},
		{[]string{"1a0", "0b1"}, 14},
		{[]string{"0b0", "0b1d"}, 14},
		{[]string{"0c2", "1c2"}, 14},
		{[]string{"0a0a", "0a0a", "00aa"}, 9},
		{[]string{"3d", "3d", "3d"}, 9},
		{[]string{"3a", "0d", "1d"}, 9},
	} {
		sum := &world{}
		visit(t, x.programs, nil, x.length, sum)
		if sum.again < 100 || sum.popped < 100 || sum.pushed < 100 {
			t.Error("too little has happened:", x.programs, sum.again, sum.popped, sum.pushed)
		}
		nothing += sum.nothing
	}
	if nothing < 1000 {
		t.Error("too few pops found no block:", nothing)
	}
}

// P11.3: long schedules of more clients.
func TestRandomSchedules(t *testing.T) {
	r := rand.New(rand.NewSource(11))
	sum := &world{}
	for range 1000 {
		programs := make([]string, 2+r.Intn(7))
		for number := range programs {
			letters := make([]byte, 40)
			for i := range letters {
				letters[i] = "000123abcd"[r.Intn(10)]
			}
			programs[number] = string(letters)
		}
		w := newWorld(t, programs)
		picks := make([]int, 300)
		for i := range picks {
			picks[i] = r.Intn(len(programs))
			w.pick(t, picks[i])
			w.check(t, picks[:i+1])
		}
		sum.add(w)
	}
	if sum.again < 1000 || sum.nothing < 1000 || sum.popped < 1000 || sum.pushed < 1000 {
		t.Error("too little has happened:", sum.again, sum.nothing, sum.popped, sum.pushed)
	}
}

// P11.3: blocks that were in no list at first come into the lists by pushes alone, in which the clients hinder each other.
func TestPushesTogether(t *testing.T) {
	programs := []string{"0ac", "0cc", "1cc", "1ccc", "3c", "0cc"}
	r := rand.New(rand.NewSource(12))
	again := 0
	for range 1000 {
		w := newWorld(t, programs)
		for number := range programs {
			for range 3 {
				w.pick(t, number)
			}
		}
		w.check(t, nil)
		var picks []int
		for w.pushed < 6 {
			picks = append(picks, r.Intn(len(programs)))
			w.pick(t, picks[len(picks)-1])
			w.check(t, picks)
		}
		again += w.again
		blocks, _ := freelist.List(w.m.Image(), 2)
		slices.Sort(blocks)
		if !slices.Equal(blocks, []int{1, 2, 3, 4, 5}) {
			t.Fatal(picks, blocks)
		}
		checkList(t, w.m.Image(), 0, []int{0}, api.OK)
	}
	if again < 1000 {
		t.Error("too few swaps failed:", again)
	}
}
