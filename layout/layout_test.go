package layout_test

import (
	"math"
	"math/rand"
	"reflect"
	"slices"
	"testing"

	"strongtx/api"
	"strongtx/asm"
	"strongtx/layout"
)

// example returns the configuration of the chapter's example.
func example() api.Config {
	return api.Config{Words: 16, Orecs: 5, Base: 4, Count: [api.Classes]int{2, 1}, Reads: 8, Writes: 8, Allocs: 2, Frees: 2, Clock: 100}
}

// with returns the example with a change.
func with(change func(*api.Config)) api.Config {
	c := example()
	change(&c)
	return c
}

func TestExample(t *testing.T) {
	c := example()
	if e := layout.Check(c); e != api.OK {
		t.Fatal(e)
	}
	if n := layout.Blocks(c); n != 3 {
		t.Error(n)
	}
	for b, want := range []struct{ class, first int }{{0, 4}, {0, 5}, {1, 6}} {
		if class, first := layout.Class(c, b), layout.First(c, b); class != want.class || first != want.first {
			t.Error(b, class, first)
		}
		if n := layout.Find(c, uint64(want.first)); n != b {
			t.Error(b, n)
		}
	}
	if n := layout.Find(c, 7); n != -1 {
		t.Error("the second word of block 2 is taken for the first of block", n)
	}
	if n := layout.Orec(c, 18); n != 3 {
		t.Error("the state word of block 2 has the orec", n)
	}
	if n := layout.Orec(c, 19); n != -1 {
		t.Error("behind the last state word there is the orec", n)
	}
}

// TestBounds takes each field from below its least value to beyond its greatest one.
func TestBounds(t *testing.T) {
	for _, f := range []struct {
		name            string
		set             func(c *api.Config, n int)
		least, greatest int
		e               api.Errno
	}{
		{"Words", func(c *api.Config, n int) { c.Words, c.Base, c.Count = n, 0, [api.Classes]int{} }, 1, 64, api.ErrWords},
		{"Orecs", func(c *api.Config, n int) { c.Orecs = n }, 1, 64, api.ErrWords},
		{"Base", func(c *api.Config, n int) { c.Base = n }, 0, 12, api.ErrHeap},
		{"Base without blocks", func(c *api.Config, n int) { c.Base, c.Count = n, [api.Classes]int{} }, 0, 16, api.ErrHeap},
		{"Count[0]", func(c *api.Config, n int) { c.Count[0] = n }, 0, 10, api.ErrHeap},
		{"Count[1]", func(c *api.Config, n int) { c.Count[1] = n }, 0, 5, api.ErrHeap},
		{"Count[2]", func(c *api.Config, n int) { c.Count[2] = n }, 0, 2, api.ErrHeap},
		{"Count[3]", func(c *api.Config, n int) { c.Count[3] = n }, 0, 1, api.ErrHeap},
		{"Count[0] alone", func(c *api.Config, n int) { c.Words, c.Base, c.Count = 64, 0, [api.Classes]int{n} }, 0, 64, api.ErrHeap},
		{"Count[3] alone", func(c *api.Config, n int) { c.Words, c.Base, c.Count = 64, 0, [api.Classes]int{3: n} }, 0, 8, api.ErrHeap},
		{"Reads", func(c *api.Config, n int) { c.Reads = n }, 1, 32, api.ErrLogs},
		{"Writes", func(c *api.Config, n int) { c.Writes = n }, 1, 32, api.ErrLogs},
		{"Allocs", func(c *api.Config, n int) { c.Allocs = n }, 0, 8, api.ErrLogs},
		{"Frees", func(c *api.Config, n int) { c.Frees = n }, 0, 8, api.ErrLogs},
		{"Clock", func(c *api.Config, n int) { c.Clock = n }, 0, 1 << 40, api.ErrClock},
	} {
		for _, n := range []int{f.least, f.greatest, (f.least + f.greatest) / 2} {
			if e := layout.Check(with(func(c *api.Config) { f.set(c, n) })); e != api.OK {
				t.Error(f.name, n, e)
			}
		}
		for _, n := range []int{math.MinInt, -1, f.least - 1, f.greatest + 1, 1 << 41, 1 << 61, 1 << 62, math.MaxInt} {
			if e := layout.Check(with(func(c *api.Config) { f.set(c, n) })); e != f.e {
				t.Error(f.name, n, e)
			}
		}
	}
}

// TestWrap has numbers whose sums or products would be permitted if they wrapped around.
func TestWrap(t *testing.T) {
	for _, count := range [][api.Classes]int{
		{1 << 62, 1 << 62, 1 << 62, 1 << 62},
		{0, 1 << 62, 0, 1 << 62},
		{math.MaxInt, math.MaxInt, 2, 0},
		{0, 0, 0, 1 << 61},
		{0, 0, 1 << 62, 0},
		{-1, 1, 0, 0},
		{5, -1, 0, 0},
		{-8, 0, 0, 1},
		{0, 0, -1, 1},
		{math.MinInt, math.MinInt, 0, 0},
	} {
		for _, base := range []int{0, 4, 16} {
			c := with(func(c *api.Config) { c.Base, c.Count = base, count })
			if e := layout.Check(c); e != api.ErrHeap {
				t.Error(base, count, e)
			}
			checkInvalid(t, c)
		}
	}
	for _, base := range []int{math.MaxInt, math.MaxInt - 3, 1 << 62} {
		if e := layout.Check(with(func(c *api.Config) { c.Base = base })); e != api.ErrHeap {
			t.Error(base, e)
		}
	}
}

// TestOrder checks that of several errors the first counts.
func TestOrder(t *testing.T) {
	breaks := []struct {
		e     api.Errno
		kinds []func(*api.Config)
	}{
		{api.ErrWords, []func(*api.Config){func(c *api.Config) { c.Words = 0 }, func(c *api.Config) { c.Orecs = 65 }}},
		{api.ErrHeap, []func(*api.Config){func(c *api.Config) { c.Base = -1 }, func(c *api.Config) { c.Count[3] = 2 }}},
		{api.ErrLogs, []func(*api.Config){func(c *api.Config) { c.Reads = 0 }, func(c *api.Config) { c.Writes = 33 }, func(c *api.Config) { c.Allocs = 9 }, func(c *api.Config) { c.Frees = -1 }}},
		{api.ErrClock, []func(*api.Config){func(c *api.Config) { c.Clock = -1 }}},
	}
	for first := range breaks {
		for _, change := range breaks[first].kinds {
			c := with(change)
			if e := layout.Check(c); e != breaks[first].e {
				t.Error(c, e)
			}
			for _, later := range breaks[first+1:] {
				for _, change := range later.kinds {
					change(&c)
				}
			}
			if e := layout.Check(c); e != breaks[first].e {
				t.Error(c, e)
			}
		}
	}
}

// checkInvalid checks what P7.2 says of configurations that are not valid.
func checkInvalid(t *testing.T, c api.Config) {
	t.Helper()
	if n := layout.Blocks(c); n != 0 {
		t.Error(c, n)
	}
	for _, n := range []int{math.MinInt, -1, 0, 1, 2, 4, 5, 6, 15, 16, 18, math.MaxInt} {
		got := []int{layout.Class(c, n), layout.First(c, n), layout.Find(c, uint64(n)), layout.Orec(c, n)}
		if !slices.Equal(got, []int{-1, -1, -1, -1}) {
			t.Error(c, n, got)
		}
	}
}

func TestInvalid(t *testing.T) {
	checkInvalid(t, api.Config{})
	for _, change := range []func(*api.Config){
		func(c *api.Config) { c.Words = 65 },
		func(c *api.Config) { c.Orecs = 0 },
		func(c *api.Config) { c.Base = 13 },
		func(c *api.Config) { c.Count[2] = -1 },
		func(c *api.Config) { c.Reads = 0 },
		func(c *api.Config) { c.Frees = 9 },
		func(c *api.Config) { c.Clock = -1 },
	} {
		checkInvalid(t, with(change))
	}
}

// checkBlocks compares the functions of a valid configuration with its blocks, which are laid one by one.
func checkBlocks(t *testing.T, c api.Config) {
	t.Helper()
	owners := map[int]int{} // from the address of each block's word to the block
	firsts := map[int]int{}
	blocks, next := 0, c.Base
	for class, size := range []int{1, 2, 4, 8} {
		for range c.Count[class] {
			if k, first := layout.Class(c, blocks), layout.First(c, blocks); k != class || first != next {
				t.Fatal(c, blocks, k, first, class, next)
			}
			firsts[next] = blocks
			for range size {
				if other, taken := owners[next]; taken || next < c.Base || next >= c.Words {
					t.Fatal(c, blocks, next, other)
				}
				owners[next] = blocks
				next++
			}
			blocks++
		}
	}
	if n := layout.Blocks(c); n != blocks {
		t.Fatal(c, n, blocks)
	}
	for _, b := range []int{math.MinInt, -1, blocks, blocks + 1, math.MaxInt} {
		if class, first := layout.Class(c, b), layout.First(c, b); class != -1 || first != -1 {
			t.Fatal(c, b, class, first)
		}
	}
	for addr := -3; addr < c.Words+blocks+3; addr++ {
		block, is := firsts[addr]
		if !is {
			block = -1
		}
		if n := layout.Find(c, uint64(addr)); n != block {
			t.Fatal(c, addr, n, block)
		}
		orec := -1
		if addr >= 0 && addr < c.Words+blocks {
			orec = addr % c.Orecs
		}
		if n := layout.Orec(c, addr); n != orec {
			t.Fatal(c, addr, n, orec)
		}
	}
	for _, addr := range []uint64{1 << 32, 1<<32 + 4, 1 << 63, 1<<63 + 4, math.MaxInt, math.MaxUint64} {
		if n := layout.Find(c, addr); n != -1 {
			t.Fatal(c, addr, n)
		}
	}
	for _, addr := range []int{math.MinInt, 1 << 32, math.MaxInt} {
		if n := layout.Orec(c, addr); n != -1 {
			t.Fatal(c, addr, n)
		}
	}
}

// TestBlocks looks at heaps of all shapes (P7.2, P7.4).
func TestBlocks(t *testing.T) {
	for _, count := range [][api.Classes]int{{}, {1}, {2, 1}, {0, 0, 0, 1}, {3, 0, 2, 1}, {0, 2, 0, 1}, {1, 1, 1, 1}, {64}, {0, 32}, {0, 0, 16}, {0, 0, 0, 8}, {8, 8, 6, 2}} {
		size := count[0] + 2*count[1] + 4*count[2] + 8*count[3]
		for words := max(1, size); words <= api.MaxWords; words++ {
			for _, base := range []int{0, (words - size) / 2, words - size} {
				for _, orecs := range []int{1, 2, 7, 64} {
					c := with(func(c *api.Config) { c.Words, c.Orecs, c.Base, c.Count = words, orecs, base, count })
					if e := layout.Check(c); e != api.OK {
						t.Fatal(c, e)
					}
					checkBlocks(t, c)
				}
			}
		}
	}
}

// TestRandom compares Check for many configurations, valid and not, with the words of the chapter.
func TestRandom(t *testing.T) {
	r := rand.New(rand.NewSource(7))
	found := map[api.Errno]int{}
	for range 20000 {
		c := api.Config{
			Words: 1 + r.Intn(64), Orecs: 1 + r.Intn(64), Base: r.Intn(24),
			Count: [api.Classes]int{r.Intn(6), r.Intn(4), r.Intn(3), r.Intn(2)},
			Reads: 1 + r.Intn(32), Writes: 1 + r.Intn(32), Allocs: r.Intn(9), Frees: r.Intn(9),
			Clock: r.Intn(1<<40 + 1), Strong: r.Intn(2) == 0,
		}
		fields := []*int{&c.Words, &c.Orecs, &c.Base, &c.Count[0], &c.Count[1], &c.Count[2], &c.Count[3], &c.Reads, &c.Writes, &c.Allocs, &c.Frees, &c.Clock}
		for range r.Intn(3) {
			*fields[r.Intn(len(fields))] = []int{-1, 0, 1, 8, 9, 32, 33, 64, 65, 1<<40 + 1}[r.Intn(10)]
		}
		e := layout.Check(c)
		if want := expected(c); e != want {
			t.Fatal(c, e, want)
		}
		found[e]++
		if e == api.OK {
			checkBlocks(t, c)
		} else {
			checkInvalid(t, c)
		}
	}
	for _, e := range []api.Errno{api.OK, api.ErrWords, api.ErrHeap, api.ErrLogs, api.ErrClock} {
		if found[e] < 100 {
			t.Error("error", e, "was found", found[e], "times only")
		}
	}
}

// expected returns the error of a configuration whose numbers are small enough to be added.
func expected(c api.Config) api.Errno {
	blocks := c.Count[0] + c.Count[1] + c.Count[2] + c.Count[3]
	size := c.Count[0] + 2*c.Count[1] + 4*c.Count[2] + 8*c.Count[3]
	switch {
	case c.Words < 1 || c.Words > 64 || c.Orecs < 1 || c.Orecs > 64:
		return api.ErrWords
	case slices.Min(c.Count[:]) < 0 || blocks > 64 || c.Base < 0 || c.Base > c.Words || blocks > 0 && c.Base+size > c.Words:
		return api.ErrHeap
	case c.Reads < 1 || c.Reads > 32 || c.Writes < 1 || c.Writes > 32 || c.Allocs < 0 || c.Allocs > 8 || c.Frees < 0 || c.Frees > 8:
		return api.ErrLogs
	case c.Clock < 0 || c.Clock > 1<<40:
		return api.ErrClock
	}
	return api.OK
}

func assemble(t *testing.T, text string) []api.Instr {
	t.Helper()
	p, line, e := asm.Assemble(text)
	if e != api.OK {
		t.Fatal(text, line, e)
	}
	return p
}

// script returns a valid script of three programs.
func script(t *testing.T) api.Script {
	t.Helper()
	return api.Script{
		Config: example(),
		Init:   make([]uint64, 16),
		Programs: [][]api.Instr{
			assemble(t, "begin 2\ntread r0 r1 0\ncommit\nfence"),
			nil,
			assemble(t, "pwrite r0 r1 3"),
		},
		Picks: []int{0, 2, 1, 0, 0, 2},
	}
}

var (
	badOp   = []api.Instr{{}, {}, {Op: api.Ops}}
	badNest = []api.Instr{{}, {Op: api.OpCommit}}
	badLen  = make([]api.Instr, api.MaxProgram+1)
	badOpen = []api.Instr{{}, {Op: api.OpBegin, Imm: 1}}
)

// A change makes an error; it keeps those of the changes before it.
type change struct {
	name       string
	make       func(s *api.Script)
	thread, at int
	e          api.Errno
}

// changes are in the order of the errors, from the last to the first.
var changes = []change{
	{"last pick", func(s *api.Script) { s.Picks[5] = 3 }, 0, 5, api.ErrPick},
	{"negative pick", func(s *api.Script) { s.Picks[3] = -1 }, 0, 3, api.ErrPick},
	{"greatest pick", func(s *api.Script) { s.Picks[1] = math.MaxInt }, 0, 1, api.ErrPick},
	{"least pick", func(s *api.Script) { s.Picks[0] = math.MinInt }, 0, 0, api.ErrPick},
	{"picks", func(s *api.Script) { s.Picks = slices.Insert(make([]int, api.MaxPicks), 9, -1) }, 0, 0, api.ErrPick},
	{"last program", func(s *api.Script) { s.Programs[2] = badOp }, 2, 2, api.ErrOp},
	{"second program", func(s *api.Script) { s.Programs[1] = badNest }, 1, 1, api.ErrNest},
	{"first program", func(s *api.Script) { s.Programs[0] = badLen }, 0, 0, api.ErrLen},
	{"open transaction", func(s *api.Script) { s.Programs[0] = badOpen }, 0, 1, api.ErrOpen},
	{"too few words", func(s *api.Script) { s.Init = make([]uint64, 15) }, 0, 0, api.ErrInit},
	{"too many words", func(s *api.Script) { s.Init = make([]uint64, 17) }, 0, 0, api.ErrInit},
	{"no words", func(s *api.Script) { s.Init = nil }, 0, 0, api.ErrInit},
	{"programs", func(s *api.Script) { s.Programs = slices.Repeat([][]api.Instr{badOp}, api.MaxThreads+1) }, 0, 0, api.ErrThreads},
	{"no programs", func(s *api.Script) { s.Programs = nil }, 0, 0, api.ErrThreads},
	{"clock", func(s *api.Script) { s.Config.Clock = -1 }, 0, 0, api.ErrClock},
	{"logs", func(s *api.Script) { s.Config.Frees = 9 }, 0, 0, api.ErrLogs},
	{"heap", func(s *api.Script) { s.Config.Base = 13 }, 0, 0, api.ErrHeap},
	{"words", func(s *api.Script) { s.Config.Orecs = 0 }, 0, 0, api.ErrWords},
}

func (c change) check(t *testing.T, s api.Script) {
	t.Helper()
	if thread, at, e := layout.CheckScript(s); thread != c.thread || at != c.at || e != c.e {
		t.Errorf("%s: %d %d %d, want %d %d %d", c.name, thread, at, e, c.thread, c.at, c.e)
	}
}

func TestScript(t *testing.T) {
	all := script(t)
	change{name: "none"}.check(t, all)
	for _, c := range changes {
		one := script(t)
		c.make(&one)
		c.check(t, one)
		c.make(&all)
		c.check(t, all)
	}
	change{name: "zero", e: api.ErrWords}.check(t, api.Script{})
}

// TestScriptLimits has scripts that are as large, or as small, as they may be.
func TestScriptLimits(t *testing.T) {
	c := with(func(c *api.Config) { c.Words, c.Base, c.Count = 64, 64, [api.Classes]int{} })
	largest := api.Script{Config: c, Init: make([]uint64, 64), Programs: slices.Repeat([][]api.Instr{make([]api.Instr, api.MaxProgram)}, api.MaxThreads), Picks: slices.Repeat([]int{15}, api.MaxPicks)}
	change{name: "largest"}.check(t, largest)
	largest.Picks[api.MaxPicks-1] = 16
	change{name: "last pick", at: api.MaxPicks - 1, e: api.ErrPick}.check(t, largest)
	largest.Programs[15] = badOp
	change{name: "last program", thread: 15, at: 2, e: api.ErrOp}.check(t, largest)

	c = with(func(c *api.Config) { c.Words, c.Base, c.Count = 1, 1, [api.Classes]int{} })
	smallest := api.Script{Config: c, Init: []uint64{math.MaxUint64}, Programs: [][]api.Instr{nil}}
	change{name: "smallest"}.check(t, smallest)
	smallest.Picks = []int{1}
	change{name: "pick of no program", e: api.ErrPick}.check(t, smallest)
}

// TestUnchanged checks that arguments are not changed (R4) and that results depend on them alone (R5).
func TestUnchanged(t *testing.T) {
	for _, c := range append(changes, change{name: "none", make: func(*api.Script) {}}) {
		s, before := script(t), script(t)
		c.make(&s)
		c.make(&before)
		c.check(t, s)
		c.check(t, s)
		if !reflect.DeepEqual(s, before) {
			t.Error(c.name, "was changed")
		}
	}
}
