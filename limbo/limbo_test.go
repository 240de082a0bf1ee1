package limbo_test

import (
	"math"
	"math/rand"
	"reflect"
	"slices"
	"testing"

	"strongtx/api"
	"strongtx/cells"
	"strongtx/freelist"
	"strongtx/limbo"
)

// tag is the factor of a tag in the word of a head.
const tag = 65536

// config has the blocks 0, 1 and 2 of class 0, 3 and 4 of class 1, none of class 2, and 5 of class 3.
var config = api.Config{Words: 32, Orecs: 4, Base: 4, Count: [api.Classes]int{3, 2, 0, 1}, Reads: 4, Writes: 4, Frees: 4, Clock: api.MaxVersion}

// classes are those of the blocks of config.
var classes = []int{0, 0, 0, 1, 1, 3}

// noBlocks are numbers of which no block of config has one.
var noBlocks = []int{math.MinInt, math.MinInt + 1, -64, -2, -1, 6, 7, 64, 1 << 32, math.MaxInt - 1, math.MaxInt}

// create returns new cells of config.
func create(t *testing.T) *cells.Mem {
	t.Helper()
	m, e := cells.New(config, 3, slices.Repeat([]uint64{9, 8}, 16))
	if e != api.OK {
		t.Fatal(e)
	}
	for cell, v := range map[int]uint64{api.CellOrec: 66, api.CellClock: 77, api.CellTicket: 6, api.CellServing: 5, api.CellSlot: 9} {
		if _, e := m.Store(cell, 0, v); e != api.OK {
			t.Fatal(cell, e)
		}
	}
	return m
}

// emptied returns cells all blocks of which were popped. The tags of the heads are 3, 2, 0 and 1 then, and the next blocks those of create.
func emptied(t *testing.T) *cells.Mem {
	t.Helper()
	m := create(t)
	for _, class := range classes {
		p := freelist.NewPop(class)
		for !p.Done() {
			p.Step(m)
		}
	}
	return m
}

// loaded is the access of a load of a head.
func loaded(class int, v uint64) api.Access {
	return api.Access{Kind: api.AccLoad, Cell: api.CellHead, Index: class, Got: v, Put: v, Done: true}
}

// linked is the access that stores what is below a block.
func linked(block int, got, put uint64) api.Access {
	return api.Access{Kind: api.AccStore, Cell: api.CellNext, Index: block, Got: got, Put: put, Done: true}
}

// swapped is the access of a swap of a head that is done.
func swapped(class int, got, put uint64) api.Access {
	return api.Access{Kind: api.AccSwap, Cell: api.CellHead, Index: class, Got: got, Put: put, Done: true}
}

// failed is the access of a swap that found another head.
func failed(class int, got uint64) api.Access {
	return api.Access{Kind: api.AccSwap, Cell: api.CellHead, Index: class, Got: got, Put: got}
}

// checkLimbo checks what is in a limbo, several times.
func checkLimbo(t *testing.T, l *limbo.Limbo, blocks, versions []int) {
	t.Helper()
	for range 2 {
		if b, v := l.Blocks(), l.Versions(); !slices.Equal(b, blocks) || !slices.Equal(v, versions) {
			t.Fatalf("blocks %v, versions %v; want %v, %v", b, v, blocks, versions)
		}
	}
}

// checkStep performs a step of a machine before which this many blocks are left.
func checkStep(t *testing.T, d *limbo.Drain, m *cells.Mem, left int, want api.Access) {
	t.Helper()
	for range 2 {
		if d.Done() || d.Left() != left {
			t.Fatalf("done %v, left %d before %v; want %d", d.Done(), d.Left(), want, left)
		}
	}
	if a := d.Step(m); a != want {
		t.Fatalf("%v, want %v", a, want)
	}
}

// checkPush performs the steps of one push that nobody hinders.
func checkPush(t *testing.T, d *limbo.Drain, m *cells.Mem, left, block int) {
	t.Helper()
	i := m.Image()
	class := classes[block]
	head := i.Head[class]
	checkStep(t, d, m, left, loaded(class, head))
	checkStep(t, d, m, left, linked(block, i.Next[block], head%tag))
	checkStep(t, d, m, left, swapped(class, head, (head/tag+1)*tag+uint64(block+1)))
}

// checkFinished checks that a machine has finished, and that its steps do nothing.
func checkFinished(t *testing.T, d *limbo.Drain, m *cells.Mem) {
	t.Helper()
	before := m.Image()
	for range 3 {
		if !d.Done() || d.Left() != 0 {
			t.Fatalf("done %v, left %d", d.Done(), d.Left())
		}
		if a := d.Step(m); a != (api.Access{}) {
			t.Fatal(a)
		}
	}
	if after := m.Image(); !reflect.DeepEqual(after, before) {
		t.Fatalf("%v, before %v", after, before)
	}
}

// checkDrained performs all pushes of a machine, which nobody hinders.
func checkDrained(t *testing.T, d *limbo.Drain, m *cells.Mem, blocks ...int) {
	t.Helper()
	for k, b := range blocks {
		checkPush(t, d, m, len(blocks)-k, b)
	}
	checkFinished(t, d, m)
}

// checkList checks the free blocks of a class.
func checkList(t *testing.T, m *cells.Mem, class int, want ...int) {
	t.Helper()
	if blocks, e := freelist.List(m.Image(), class); !slices.Equal(blocks, want) || e != api.OK {
		t.Fatalf("class %d: %v, %d; want %v", class, blocks, e, want)
	}
}

// P18.1: blocks are appended in their order, each with its version, whatever the order of the versions.
func TestAdd(t *testing.T) {
	l := limbo.New(config)
	checkLimbo(t, l, nil, nil)
	l.Add(4, []int{2})
	checkLimbo(t, l, []int{2}, []int{4})
	l.Add(6, []int{0, 5, 1})
	checkLimbo(t, l, []int{2, 0, 5, 1}, []int{4, 6, 6, 6})
	l.Add(5, nil)
	l.Add(5, []int{})
	checkLimbo(t, l, []int{2, 0, 5, 1}, []int{4, 6, 6, 6})
	l.Add(1, []int{4})
	l.Add(6, []int{3})
	checkLimbo(t, l, []int{2, 0, 5, 1, 4, 3}, []int{4, 6, 6, 6, 1, 6})
}

// P18.1: any number may be a version.
func TestAnyVersion(t *testing.T) {
	l := limbo.New(config)
	versions := []int{0, math.MaxInt, -1, math.MinInt, api.MaxVersion, api.MaxVersion + 1}
	for b, v := range versions {
		l.Add(v, []int{b})
	}
	checkLimbo(t, l, []int{0, 1, 2, 3, 4, 5}, versions)
}

// P18.1: numbers of no block are ignored, and the others of the same list are not.
func TestNoBlock(t *testing.T) {
	for _, n := range noBlocks {
		l := limbo.New(config)
		l.Add(3, []int{n})
		checkLimbo(t, l, nil, nil)
		l.Add(4, []int{n, 5, n, n, 0, n})
		checkLimbo(t, l, []int{5, 0}, []int{4, 4})
	}
	l := limbo.New(config)
	l.Add(3, noBlocks)
	checkLimbo(t, l, nil, nil)
	checkFinished(t, l.Drain(math.MaxInt), create(t))
}

// P18.1: the blocks are those of the configuration, from none to the most that there may be.
func TestBlocksOfConfiguration(t *testing.T) {
	for _, x := range []struct {
		change func(c *api.Config)
		blocks int
	}{
		{func(c *api.Config) {}, 6},
		{func(c *api.Config) { c.Count = [api.Classes]int{} }, 0},
		{func(c *api.Config) { c.Count = [api.Classes]int{0, 0, 0, 1} }, 1},
		{func(c *api.Config) { c.Count = [api.Classes]int{1, 1, 1, 1} }, 4},
		{func(c *api.Config) { c.Words, c.Base, c.Count = 64, 0, [api.Classes]int{64} }, 64},
		{func(c *api.Config) { c.Words = 0 }, 0},
		{func(c *api.Config) { c.Words = 15 }, 0},
		{func(c *api.Config) { c.Orecs = 65 }, 0},
		{func(c *api.Config) { c.Base = -1 }, 0},
		{func(c *api.Config) { c.Count[2] = -1 }, 0},
		{func(c *api.Config) { c.Count[0] = math.MaxInt }, 0},
		{func(c *api.Config) { c.Reads = 0 }, 0},
		{func(c *api.Config) { c.Frees = -1 }, 0},
		{func(c *api.Config) { c.Clock = api.MaxVersion + 1 }, 0},
	} {
		c := config
		x.change(&c)
		l := limbo.New(c)
		if l == nil {
			t.Fatal("no limbo for", c)
		}
		var all, blocks []int
		for b := -1; b <= 65; b++ {
			all = append(all, b)
			if 0 <= b && b < x.blocks {
				blocks = append(blocks, b)
			}
		}
		l.Add(7, all)
		checkLimbo(t, l, blocks, slices.Repeat([]int{7}, x.blocks))
		if d := l.Drain(7); d.Left() != x.blocks || d.Done() != (x.blocks == 0) {
			t.Fatal(c, d.Left(), d.Done())
		}
		checkLimbo(t, l, nil, nil)
	}
}

// P18.1: Add does not ask whether a block is there already: each one is appended.
func TestSameBlock(t *testing.T) {
	l := limbo.New(config)
	l.Add(4, []int{2, 2})
	l.Add(5, []int{2})
	checkLimbo(t, l, []int{2, 2, 2}, []int{4, 4, 5})
	if d := l.Drain(4); d.Left() != 2 {
		t.Fatal(d.Left())
	}
	checkLimbo(t, l, []int{2}, []int{5})
}

// The chapter's example.
func TestExample(t *testing.T) {
	m := emptied(t)
	l := limbo.New(config)
	l.Add(4, []int{2})
	l.Add(6, []int{0, 1})
	d := l.Drain(5)
	checkLimbo(t, l, []int{0, 1}, []int{6, 6})
	checkStep(t, d, m, 1, loaded(0, 3*tag))
	checkStep(t, d, m, 1, linked(2, 0, 0))
	checkStep(t, d, m, 1, swapped(0, 3*tag, 4*tag+3))
	checkFinished(t, d, m)
	checkList(t, m, 0, 2)
}

// P18.2: the blocks are pushed in order, each on the list of its class, and no other cell is changed.
func TestDrain(t *testing.T) {
	m := emptied(t)
	want := m.Image()
	l := limbo.New(config)
	l.Add(4, []int{3, 1, 5})
	l.Add(4, []int{0, 4, 2})
	d := l.Drain(4)
	checkLimbo(t, l, nil, nil)
	if i := m.Image(); !reflect.DeepEqual(i, want) {
		t.Fatalf("%v before any step, want %v", i, want)
	}
	checkStep(t, d, m, 6, loaded(1, 2*tag))
	checkStep(t, d, m, 6, linked(3, 5, 0))
	checkStep(t, d, m, 6, swapped(1, 2*tag, 3*tag+4))
	checkStep(t, d, m, 5, loaded(0, 3*tag))
	checkStep(t, d, m, 5, linked(1, 3, 0))
	checkStep(t, d, m, 5, swapped(0, 3*tag, 4*tag+2))
	checkStep(t, d, m, 4, loaded(3, tag))
	checkStep(t, d, m, 4, linked(5, 0, 0))
	checkStep(t, d, m, 4, swapped(3, tag, 2*tag+6))
	checkStep(t, d, m, 3, loaded(0, 4*tag+2))
	checkStep(t, d, m, 3, linked(0, 2, 2))
	checkStep(t, d, m, 3, swapped(0, 4*tag+2, 5*tag+1))
	checkStep(t, d, m, 2, loaded(1, 3*tag+4))
	checkStep(t, d, m, 2, linked(4, 0, 4))
	checkStep(t, d, m, 2, swapped(1, 3*tag+4, 4*tag+5))
	checkStep(t, d, m, 1, loaded(0, 5*tag+1))
	checkStep(t, d, m, 1, linked(2, 0, 1))
	checkStep(t, d, m, 1, swapped(0, 5*tag+1, 6*tag+3))
	checkFinished(t, d, m)
	want.Head = []uint64{6*tag + 3, 4*tag + 5, 0, 2*tag + 6}
	want.Next = []uint64{2, 0, 1, 0, 4, 0}
	if i := m.Image(); !reflect.DeepEqual(i, want) {
		t.Fatalf("%v, want %v", i, want)
	}
	checkList(t, m, 0, 2, 0, 1)
	checkList(t, m, 1, 4, 3)
	checkList(t, m, 2)
	checkList(t, m, 3, 5)
}

// P18.2: the blocks with a version of at most the limit leave the limbo wherever they stand, and the others stay in their order.
func TestLimit(t *testing.T) {
	const least, greatest = math.MinInt, math.MaxInt
	for _, x := range []struct {
		versions []int // of the blocks 5, 4, ..
		limit    int
		drained  []int
		kept     []int
	}{
		{[]int{1, 2, 3, 4, 5, 6}, 3, []int{5, 4, 3}, []int{2, 1, 0}},
		{[]int{6, 5, 4, 3, 2, 1}, 3, []int{2, 1, 0}, []int{5, 4, 3}},
		{[]int{7, 3, 9, 1, 8, 2}, 7, []int{5, 4, 2, 0}, []int{3, 1}},
		{[]int{7, 3, 9, 1, 8, 2}, 6, []int{4, 2, 0}, []int{5, 3, 1}},
		{[]int{7, 3, 9, 1, 8, 2}, 8, []int{5, 4, 2, 1, 0}, []int{3}},
		{[]int{7, 3, 9, 1, 8, 2}, 0, nil, []int{5, 4, 3, 2, 1, 0}},
		{[]int{7, 3, 9, 1, 8, 2}, 9, []int{5, 4, 3, 2, 1, 0}, nil},
		{[]int{3, 3, 3}, 2, nil, []int{5, 4, 3}},
		{[]int{3, 3, 3}, 3, []int{5, 4, 3}, nil},
		{[]int{0, 1, -1}, 0, []int{5, 3}, []int{4}},
		{[]int{0, 1, -1}, -1, []int{3}, []int{5, 4}},
		{[]int{0, greatest, least}, least, []int{3}, []int{5, 4}},
		{[]int{0, greatest, least}, greatest - 1, []int{5, 3}, []int{4}},
		{[]int{0, greatest, least}, greatest, []int{5, 4, 3}, nil},
		{[]int{-1, least + 1}, least, nil, []int{5, 4}},
		{nil, greatest, nil, nil},
	} {
		m := emptied(t)
		l := limbo.New(config)
		for k, v := range x.versions {
			l.Add(v, []int{5 - k})
		}
		d := l.Drain(x.limit)
		var versions []int
		for _, b := range x.kept {
			versions = append(versions, x.versions[5-b])
		}
		checkLimbo(t, l, x.kept, versions)
		checkFinished(t, l.Drain(x.limit), m)
		checkDrained(t, d, m, x.drained...)
		checkLimbo(t, l, x.kept, versions)
		checkDrained(t, l.Drain(greatest), m, x.kept...)
		checkLimbo(t, l, nil, nil)
	}
}

// P18.2: a block counts as left until its swap is done. A swap that is not done makes the push of the same block begin again.
func TestHindered(t *testing.T) {
	m := emptied(t)
	l := limbo.New(config)
	l.Add(1, []int{0, 4})
	d := l.Drain(1)
	checkStep(t, d, m, 2, loaded(0, 3*tag))
	checkStep(t, d, m, 2, linked(0, 2, 0))
	l.Add(2, []int{1})
	checkDrained(t, l.Drain(2), m, 1)
	checkStep(t, d, m, 2, failed(0, 4*tag+2))
	checkStep(t, d, m, 2, loaded(0, 4*tag+2))
	checkStep(t, d, m, 2, linked(0, 0, 2))
	l.Add(2, []int{2})
	checkDrained(t, l.Drain(2), m, 2)
	checkStep(t, d, m, 2, failed(0, 5*tag+3))
	checkPush(t, d, m, 2, 0)
	checkStep(t, d, m, 1, loaded(1, 2*tag))
	l.Add(2, []int{3})
	checkDrained(t, l.Drain(2), m, 3)
	checkStep(t, d, m, 1, linked(4, 0, 0))
	checkStep(t, d, m, 1, failed(1, 3*tag+4))
	checkPush(t, d, m, 1, 4)
	checkFinished(t, d, m)
	checkList(t, m, 0, 0, 2, 1)
	checkList(t, m, 1, 4, 3)
}

// P18.2: without blocks the machine has finished at once, and the limbo can be used on.
func TestEmptyDrain(t *testing.T) {
	m := emptied(t)
	l := limbo.New(config)
	for _, limit := range []int{math.MinInt, -1, 0, 1, math.MaxInt} {
		checkFinished(t, l.Drain(limit), m)
	}
	l.Add(5, []int{3})
	checkFinished(t, l.Drain(4), m)
	checkLimbo(t, l, []int{3}, []int{5})
	checkDrained(t, l.Drain(5), m, 3)
	checkFinished(t, l.Drain(5), m)
	l.Add(6, []int{0})
	checkLimbo(t, l, []int{0}, []int{6})
	checkDrained(t, l.Drain(6), m, 0)
}

// P18.2: a nil limbo has no blocks, also none that are added, and its drain has finished at once.
func TestNil(t *testing.T) {
	m := create(t)
	var l *limbo.Limbo
	checkLimbo(t, l, nil, nil)
	l.Add(1, []int{0, 1})
	checkLimbo(t, l, nil, nil)
	for _, limit := range []int{math.MinInt, 0, 1, math.MaxInt} {
		checkFinished(t, l.Drain(limit), m)
	}
}

// P18.1: the list of Add is neither changed nor kept, and results are new memory.
func TestListsAreApart(t *testing.T) {
	m := emptied(t)
	l := limbo.New(config)
	list := make([]int, 3, 8)
	copy(list, []int{3, 99, 1})
	l.Add(4, list)
	if !slices.Equal(list[:8], []int{3, 99, 1, 0, 0, 0, 0, 0}) {
		t.Fatal(list[:8])
	}
	copy(list, []int{0, 0, 0})
	checkLimbo(t, l, []int{3, 1}, []int{4, 4})
	b, v := l.Blocks(), l.Versions()
	b[0], v[1] = 5, 9
	_, _ = append(b, 7), append(v, 7)
	checkLimbo(t, l, []int{3, 1}, []int{4, 4})
	d := l.Drain(4)
	l.Add(5, []int{2, 0})
	if !slices.Equal(b, []int{5, 1}) || !slices.Equal(v, []int{4, 9}) || !slices.Equal(list, []int{0, 0, 0}) {
		t.Fatal(b, v, list)
	}
	checkDrained(t, d, m, 3, 1)
	checkLimbo(t, l, []int{2, 0}, []int{5, 5})
}

// P18.2: what happens in a limbo, or in another one, after Drain does not concern the machine.
func TestMachinesAreApart(t *testing.T) {
	m := emptied(t)
	l, other := limbo.New(config), limbo.New(config)
	l.Add(1, []int{3, 0})
	l.Add(2, []int{5, 1})
	l.Add(3, []int{4})
	other.Add(1, []int{2})
	first := l.Drain(1)
	checkLimbo(t, other, []int{2}, []int{1})
	checkStep(t, first, m, 2, loaded(1, 2*tag))
	second := l.Drain(2)
	l.Add(1, []int{3})
	checkPush(t, second, m, 2, 5)
	checkStep(t, first, m, 2, linked(3, 5, 0))
	checkStep(t, second, m, 1, loaded(0, 3*tag))
	checkStep(t, first, m, 2, swapped(1, 2*tag, 3*tag+4))
	checkDrained(t, other.Drain(9), m, 2)
	checkDrained(t, first, m, 0)
	checkLimbo(t, l, []int{4, 3}, []int{3, 1})
	checkStep(t, second, m, 1, linked(1, 3, 0))
	checkStep(t, second, m, 1, failed(0, 5*tag+1))
	checkDrained(t, second, m, 1)
	checkLimbo(t, other, nil, nil)
}

// A machine performs the steps of a pop or of a drain.
type machine interface {
	Step(m *cells.Mem) api.Access
	Done() bool
}

// A client performs a program in steps. Its letters: 0, 1 and 3 pop a block of this class, f frees all blocks that it has, d drains what was freed before the last free of all clients, and D drains all.
type client struct {
	program  string
	held     []int // blocks that were popped
	limbo    *limbo.Limbo
	blocks   []int // what the limbo must have
	versions []int
	draining []int // what its drain must still push
	machine  machine
}

// A world has clients with the same cells, and counts what has happened.
type world struct {
	m       *cells.Mem
	version int // of the last free
	clients []*client
	again   int // swaps of pushes that failed
	kept    int // drains that left blocks in the limbo
	pushed  int
}

func newWorld(t *testing.T, programs []string) *world {
	w := &world{m: create(t)}
	for _, p := range programs {
		c := &client{program: p, limbo: limbo.New(config)}
		w.clients = append(w.clients, c)
		w.start(c)
	}
	return w
}

// start begins with the next machine of a client, if there is one that has not finished at once; what lies before it takes no step.
func (w *world) start(c *client) {
	c.machine = nil
	for c.machine == nil && c.program != "" {
		letter := c.program[0]
		c.program = c.program[1:]
		switch letter {
		case 'f':
			w.free(c)
		case 'd':
			w.drain(c, w.version-1)
		case 'D':
			w.drain(c, w.version)
		default:
			c.machine = freelist.NewPop(int(letter - '0'))
		}
	}
}

// free adds the blocks that a client has to its limbo.
func (w *world) free(c *client) {
	if len(c.held) == 0 {
		return
	}
	w.version++
	c.limbo.Add(w.version, c.held)
	c.blocks = append(c.blocks, c.held...)
	c.versions = append(c.versions, slices.Repeat([]int{w.version}, len(c.held))...)
	c.held = nil
}

// drain begins with a drain of a client, unless it has no blocks.
func (w *world) drain(c *client, limit int) {
	var blocks, versions []int
	for k, b := range c.blocks {
		if c.versions[k] <= limit {
			c.draining = append(c.draining, b)
		} else {
			blocks, versions = append(blocks, b), append(versions, c.versions[k])
		}
	}
	c.blocks, c.versions = blocks, versions
	d := c.limbo.Drain(limit)
	if !d.Done() {
		c.machine = d
	}
	if len(c.draining) > 0 && len(blocks) > 0 {
		w.kept++
	}
}

// over reports whether a client has nothing more to do.
func (w *world) over(number int) bool {
	return w.clients[number].machine == nil
}

// pick performs one step of a client.
func (w *world) pick(number int) {
	if w.over(number) {
		return
	}
	c := w.clients[number]
	a := c.machine.Step(w.m)
	switch u := c.machine.(type) {
	case *freelist.Pop:
		if u.Done() && u.Block() != -1 {
			c.held = append(c.held, u.Block())
		}
	case *limbo.Drain:
		w.push(c, a)
	}
	if c.machine.Done() {
		w.start(c)
	}
}

// push counts a block of a drain as pushed if this access was a swap that was done.
func (w *world) push(c *client, a api.Access) {
	if a.Kind != api.AccSwap {
		return
	}
	if !a.Done {
		w.again++
		return
	}
	w.pushed++
	c.draining = c.draining[1:]
}

// check checks that each block is in one place: in a list, with a client, in a limbo, or in a drain.
func (w *world) check(t *testing.T, picks []int) {
	t.Helper()
	i := w.m.Image()
	var places [6]int
	count := func(blocks []int) {
		for _, b := range blocks {
			places[b]++
		}
	}
	for class := range api.Classes {
		blocks, e := freelist.List(i, class)
		if e != api.OK {
			t.Fatalf("picks %v: class %d of %v: %d", picks, class, i, e)
		}
		for _, b := range blocks {
			if classes[b] != class {
				t.Fatalf("picks %v: block %d is in the list of class %d", picks, b, class)
			}
		}
		count(blocks)
	}
	for number, c := range w.clients {
		checkLimbo(t, c.limbo, c.blocks, c.versions)
		if d, ok := c.machine.(*limbo.Drain); ok && d.Left() != len(c.draining) || !ok && len(c.draining) > 0 {
			t.Fatalf("picks %v: %v are in a drain of client %d", picks, c.draining, number)
		}
		count(c.held)
		count(c.limbo.Blocks())
		count(c.draining)
	}
	if places != [6]int{1, 1, 1, 1, 1, 1} {
		t.Fatalf("picks %v: the blocks are in %v places", picks, places)
	}
}

// add adds the counts of another world.
func (w *world) add(other *world) {
	w.again += other.again
	w.kept += other.kept
	w.pushed += other.pushed
}

// visit checks the world after each of the schedules that begin with some picks, up to a length or the end of the programs. It adds to the sum what has happened.
func visit(t *testing.T, programs []string, picks []int, length int, sum *world) {
	t.Helper()
	w := newWorld(t, programs)
	for _, p := range picks {
		w.pick(p)
	}
	w.check(t, picks)
	last := true
	for number := range programs {
		if len(picks) < length && !w.over(number) {
			last = false
			visit(t, programs, append(picks, number), length, sum)
		}
	}
	if last {
		sum.add(w)
	}
}

// P18.3: all schedules of some clients up to a length.
func TestAllSchedules(t *testing.T) {
	all := &world{}
	for _, x := range []struct {
		programs []string
		length   int
	}{
		{[]string{"0fD", "0fD"}, 14},
		{[]string{"0fD", "0f0dD"}, 14},
		{[]string{"00fD", "0fD"}, 14},
		{[]string{"0f1fdD", "0"}, 14},
		{[]string{"3fD3fD", "3fD"}, 14},
		{[]string{"13fD", "1fD"}, 14},
		{[]string{"0fD", "0fD", "0fD"}, 10},
		{[]string{"3fD", "3fD", "3fD"}, 10},
	} {
		sum := &world{}
		visit(t, x.programs, nil, x.length, sum)
		if sum.pushed < 1000 {
			t.Error("too few blocks were pushed:", x.programs, sum.pushed)
		}
		all.add(sum)
	}
	if all.again < 1000 || all.kept < 1000 {
		t.Error("too little has happened:", all.again, all.kept)
	}
}

// P18.3: long schedules of more clients.
func TestRandomSchedules(t *testing.T) {
	r := rand.New(rand.NewSource(18))
	sum := &world{}
	for range 1000 {
		programs := make([]string, 2+r.Intn(5))
		for number := range programs {
			letters := make([]byte, 40)
			for i := range letters {
				letters[i] = "00113ffdD"[r.Intn(9)]
			}
			programs[number] = string(letters)
		}
		w := newWorld(t, programs)
		picks := make([]int, 300)
		for i := range picks {
			picks[i] = r.Intn(len(programs))
			w.pick(picks[i])
			w.check(t, picks[:i+1])
		}
		sum.add(w)
	}
	if sum.again < 1000 || sum.kept < 500 || sum.pushed < 1000 {
		t.Error("too little has happened:", sum.again, sum.kept, sum.pushed)
	}
}
