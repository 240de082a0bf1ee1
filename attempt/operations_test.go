package attempt_test

import (
	"math"
	"testing"

	"strongtx/api"
	"strongtx/cells"
	"strongtx/layout"
)

// P19.2, P19.3: a shared read has three steps, and gives the value and the address. Words that were read are read again, also those whose ownership record is in the set.
func TestRead(t *testing.T) {
	s := begun(t, config)
	s.read(3)
	s.read(15)
	s.read(8) // the ownership record 1, as that of 15
	s.askRead(3)
	s.do(s.shared(3), done, value(103))
	s.read(0)
	s.askRead(15)
	s.do(s.shared(15), done, value(115))
	s.askEnd(api.OutUser)
	s.do(local, code(api.OutUser))
	s.turn()
	s.checks(3, 1, 0)
}

// P19.2: a value 0, and one that fills the word.
func TestReadValues(t *testing.T) {
	for _, v := range []uint64{0, 1, 1 << 63, math.MaxUint64} {
		s := begun(t, config)
		put(t, s.m, api.CellData, 2, v)
		s.read(2)
		if s.a.Value() != v {
			t.Fatal(s.a.Value(), v)
		}
	}
}

// P19.2: a word that is in the log is read there, without an access; it is not one of the words that were read.
func TestReadOfLog(t *testing.T) {
	s := begun(t, config)
	s.write(3, 7)
	put(t, s.m, api.CellOrec, 3, held(t, 3, 2))
	s.askRead(3)
	s.do(local, done, value(7))
	s.askWrite(3, 0)
	s.do(local, done)
	s.askRead(3)
	s.do(local, done, value(0))
	s.read(1)
	s.write(1, 5)
	s.askRead(1)
	s.do(local, done, value(5))
}

// P19.2: a block's words are read from the log when it was allocated, and so is a word of the heap that is written.
func TestReadOfBlock(t *testing.T) {
	s := begun(t, config)
	s.alloc(1, 2)
	for _, addr := range []uint64{6, 7} {
		s.askRead(addr)
		s.do(local, done, value(0))
	}
	s.askWrite(7, 70)
	s.do(local, done)
	s.askRead(7)
	s.do(local, done, value(70))
	s.read(8)
}

// badAddresses are no addresses of words of the client; those of the state words are among them.
var badAddresses = []uint64{16, 17, 18, 19, 20, 64, 1 << 32, math.MaxInt64, math.MaxInt64 + 1, 1<<63 + 3, math.MaxUint64 - 1, math.MaxUint64}

// P19.2: an address that is not one of the client's words ends the attempt, which takes its turn.
func TestBadAddress(t *testing.T) {
	for _, addr := range badAddresses {
		for _, ask := range []func(s *session){func(s *session) { s.askRead(addr) }, func(s *session) { s.askWrite(addr, 1) }} {
			s := begun(t, config)
			s.read(3)
			s.write(2, 9)
			ask(s)
			s.do(local, code(api.OutAddress))
			s.turn()
			s.checks(3)
			s.decide(decided(-1))
			s.pass()
			s.leaves()
			s.data(map[int]uint64{2: 102})
		}
	}
}

// P19.2: a conflict undoes the attempt at once; it takes no turn.
func TestConflict(t *testing.T) {
	for _, o := range []uint64{free(t, rv+1), free(t, api.MaxVersion), held(t, rv+1, 2), held(t, 0, 0), held(t, rv, 2)} {
		s := begun(t, config)
		s.read(0)
		s.write(1, 5)
		put(t, s.m, api.CellOrec, 3, o)
		s.askRead(10)
		s.do(load(api.PhaseOrec, api.CellOrec, 3), code(api.OutConflict))
		s.leaves()
		s.data(map[int]uint64{1: 101})
	}
	for _, o := range []uint64{free(t, rv), free(t, rv+1), held(t, 3, 2), free(t, 2)} {
		s := begun(t, config)
		s.read(0)
		s.askRead(10)
		last := s.shared(10)
		put(t, s.m, api.CellOrec, 3, o)
		s.do(last, code(api.OutConflict))
		s.leaves()
	}
}

// P19.2: a version that is not newer than the snapshot is no conflict.
func TestNoConflict(t *testing.T) {
	for _, version := range []int{0, rv - 1, rv} {
		s := begun(t, config)
		put(t, s.m, api.CellOrec, 3, free(t, version))
		s.read(10)
	}
}

// P19.2, P19.3: when the read set is full, the attempt is undone; the word counts as read, and the value stays that of the read before.
func TestReadCapacity(t *testing.T) {
	for _, capacity := range []int{1, 2, 3, api.MaxReads} {
		c := config
		c.Words, c.Orecs, c.Reads = api.MaxWords, api.MaxOrecs, capacity
		s := begun(t, c)
		for k := range capacity {
			s.read(60 - k)
		}
		s.askRead(60)
		s.do(s.shared(60), done, value(160))
		s.askRead(5)
		s.do(s.shared(5), code(api.OutCapacity), reads(5))
		s.leaves()
	}
}

// P19.2: a conflict comes before the capacity, and its word does not count as read.
func TestConflictBeforeCapacity(t *testing.T) {
	c := config
	c.Reads = 1
	s := begun(t, c)
	s.read(3)
	s.askRead(5)
	last := s.shared(5)
	put(t, s.m, api.CellOrec, 5, free(t, 6))
	s.do(last, code(api.OutConflict))
	s.leaves()
}

// P19.3: the words in the log stand in the order in which they were written first. A word that is written again has its last value.
func TestWrite(t *testing.T) {
	s := begun(t, config)
	s.write(15, 1)
	s.write(0, 2)
	s.askWrite(15, 3)
	s.do(local, done)
	s.write(7, math.MaxUint64)
	s.data(map[int]uint64{0: 100, 7: 107, 15: 115})
	s.commit([]int{0, 1}, 15, 3, 0, 2, 7, math.MaxUint64)
	s.data(map[int]uint64{0: 2, 7: math.MaxUint64, 15: 3})
}

// P19.2: when the log is full, a word that is not in it undoes the attempt, and one that is in it does not.
func TestWriteCapacity(t *testing.T) {
	for _, capacity := range []int{1, 4, api.MaxWrites} {
		c := config
		c.Words, c.Orecs, c.Writes = api.MaxWords, api.MaxOrecs, capacity
		s := begun(t, c)
		for k := range capacity {
			s.write(60-k, uint64(k))
		}
		s.askWrite(60, 9)
		s.do(local, done)
		s.askWrite(5, 9)
		s.do(local, code(api.OutCapacity))
		s.leaves()
		s.data(map[int]uint64{60: 160, 5: 105})
	}
}

// P19.2: an address that is no word comes before the capacity.
func TestBadAddressBeforeCapacity(t *testing.T) {
	c := config
	c.Writes = 1
	s := begun(t, c)
	s.write(0, 1)
	s.askWrite(16, 1)
	s.do(local, code(api.OutAddress))
	s.turn()
	s.decide(decided(-1))
}

// commit checks an attempt that commits: the ownership records of its log, ascending, and the entries, an address and a value each.
func (s *session) commit(orecs []int, entries ...uint64) {
	s.t.Helper()
	s.askEnd(api.OutCommitted)
	s.do(local, code(api.OutCommitted))
	s.locks(orecs...)
	s.turn()
	s.commits(orecs, entries...)
}

// commits checks a commit from its decision on.
func (s *session) commits(orecs []int, entries ...uint64) {
	s.t.Helper()
	version := s.m.Image().Clock + 1
	s.decide(decided(int(version)))
	for k := 0; k < len(entries); k += 2 {
		s.do(store(api.PhaseWrite, api.CellData, int(entries[k]), entries[k+1]))
	}
	s.releases(int(version), orecs...)
	s.do(store(api.PhaseStamp, api.CellClock, 0, version))
	s.pass()
	s.leaves()
}

// P19.2, P19.3: an Alloc pops a block; its state word and then its words are in the log. A commit keeps the block.
func TestAlloc(t *testing.T) {
	for class, x := range []struct {
		orecs   []int
		entries []uint64
	}{
		{[]int{2, 4}, []uint64{16, 1, 4, 0}},
		{[]int{0, 4, 6}, []uint64{18, 2, 6, 0, 7, 0}},
		{[]int{1, 2, 3, 4, 5}, []uint64{19, 3, 8, 0, 9, 0, 10, 0, 11, 0}},
	} {
		c := config
		c.Writes = 5
		s := begun(t, c)
		s.alloc(class, []int{0, 2, 3}[class])
		s.commit(x.orecs, x.entries...)
		if h := s.m.Image().Head[class]; class > 0 && h != head(t, 1, -1) || class == 0 && h != head(t, 1, 1) {
			t.Fatal(h)
		}
	}
}

// P19.2: words of a block that were written before it was allocated become 0 and stay at their place of the log.
func TestAllocOfWrittenWords(t *testing.T) {
	s := begun(t, config)
	s.write(7, 70)
	s.write(1, 10)
	s.askAlloc(1)
	s.do(s.popped(1, 2), done, value(6), allocs(2), writes(6))
	s.askRead(7)
	s.do(local, done, value(0))
	s.commit([]int{0, 1, 4, 6}, 7, 0, 1, 10, 18, 2, 6, 0)
}

// P19.2: two blocks of one class; the second one is the next of the list.
func TestAllocs(t *testing.T) {
	s := begun(t, config)
	s.alloc(0, 0)
	s.alloc(0, 1)
	s.askEnd(api.OutUser)
	s.do(local, code(api.OutUser))
	s.turn()
	s.decide(decided(-1))
	s.pass()
	s.pushes(0, 0)
	s.pushes(0, 1)
	s.leaves()
	if i := s.m.Image(); i.Head[0] != head(t, 4, 1) || i.Next[1] != 1 || i.Next[0] != 0 {
		t.Fatal(i)
	}
}

// P19.2: a pop whose swap fails begins again.
func TestAllocAgain(t *testing.T) {
	s := begun(t, config)
	s.askAlloc(0)
	s.steps(load(api.PhaseHead, api.CellHead, 0), load(api.PhaseNext, api.CellNext, 0))
	put(t, s.m, api.CellHead, 0, head(t, 6, 1))
	s.steps(miss(api.PhaseTake, api.CellHead, 0), load(api.PhaseHead, api.CellHead, 0))
	s.steps(load(api.PhaseNext, api.CellNext, 1))
	put(t, s.m, api.CellHead, 0, head(t, 7, 1))
	s.steps(miss(api.PhaseTake, api.CellHead, 0))
	s.do(s.popped(0, 1), done, value(5), allocs(1), writes(5))
	s.write(0, 1)

	s = begun(t, config)
	s.askAlloc(2)
	s.steps(load(api.PhaseHead, api.CellHead, 2), load(api.PhaseNext, api.CellNext, 3))
	put(t, s.m, api.CellHead, 2, head(t, 1, -1))
	s.steps(miss(api.PhaseTake, api.CellHead, 2))
	s.do(load(api.PhaseHead, api.CellHead, 2), code(api.OutMemory))
	s.leaves()
}

// P19.2: without a block the attempt is undone after the load of the head; the blocks that it has go back. The value stays.
func TestAllocMemory(t *testing.T) {
	s := begun(t, config)
	s.askAlloc(3)
	s.do(load(api.PhaseHead, api.CellHead, 3), code(api.OutMemory))
	s.leaves()

	s = begun(t, config)
	s.alloc(1, 2)
	s.askAlloc(1)
	s.do(load(api.PhaseHead, api.CellHead, 1), code(api.OutMemory))
	s.pushes(1, 2)
	s.leaves()
	s.data(map[int]uint64{6: 106, 7: 107, 18: 0})
}

// P19.2: after as many Allocs as the configuration permits, also of blocks that were freed again, the next one undoes the attempt without an access.
func TestAllocCapacity(t *testing.T) {
	c := config
	c.Writes = 32
	s := begun(t, c)
	s.alloc(1, 2)
	s.free(2, true)
	s.alloc(0, 0)
	s.askAlloc(0)
	s.do(local, code(api.OutCapacity))
	s.pushes(1, 2)
	s.pushes(0, 0)
	s.leaves()

	c.Allocs = 0
	for class := range api.Classes {
		s = begun(t, c)
		s.askAlloc(class)
		s.do(local, code(api.OutCapacity))
		s.leaves()
	}
}

// P19.2, P19.3: when the log is full for the state word or for one of the words, the attempt is undone; the block is an allocated one and goes back. The value stays.
func TestAllocLog(t *testing.T) {
	for written := range 4 {
		s := begun(t, config)
		for k := range written + 1 {
			s.write(12+k, 1)
		}
		s.askAlloc(2)
		change := []change{code(api.OutCapacity), allocs(3)}
		for k := range 2 - written {
			change = append(change, writes(8+k))
		}
		s.do(s.popped(2, 3), change...)
		s.pushes(2, 3)
		s.leaves()
	}
	// The log has just enough places, because a word of the block is in it.
	s := begun(t, config)
	s.write(6, 1)
	s.write(0, 1)
	s.askAlloc(1)
	s.do(s.popped(1, 2), done, value(6), allocs(2), writes(7))
}

// give makes a block an allocated one, and takes it from its list, as a commit of another thread does.
func give(t *testing.T, m *cells.Mem, block int) {
	t.Helper()
	class := layout.Class(config, block)
	put(t, m, api.CellData, config.Words+block, uint64(class)+1)
	put(t, m, api.CellHead, class, head(t, 1, -1))
}

// P19.2, P19.3: a Free reads the state word of the block, which is no word of the client. A commit makes it 0, and the block stays off its list.
func TestFree(t *testing.T) {
	for block, orec := range []int{2, 3, 4, 5} {
		s := begun(t, config)
		give(t, s.m, block)
		s.free(block, false)
		s.askEnd(api.OutCommitted)
		s.do(local, code(api.OutCommitted))
		s.locks(orec)
		s.turn()
		s.checks(orec)
		s.commits([]int{orec}, uint64(16+block), 0)
		s.data(map[int]uint64{16 + block: 0})
		if h := s.m.Image().Head[layout.Class(config, block)]; h != head(t, 1, -1) {
			t.Fatal(h)
		}
	}
}

// P19.2, P19.3: the blocks stand in the order in which they were freed. A Free leaves the value as it is.
func TestFrees(t *testing.T) {
	s := begun(t, config)
	give(t, s.m, 3)
	give(t, s.m, 0)
	s.read(1)
	s.free(3, false)
	s.free(0, false)
	s.commitAfter([]int{1, 5, 2}, []int{2, 5}, 19, 0, 16, 0)
}

// commitAfter checks a commit with a read set.
func (s *session) commitAfter(set, orecs []int, entries ...uint64) {
	s.t.Helper()
	s.askEnd(api.OutCommitted)
	s.do(local, code(api.OutCommitted))
	s.locks(orecs...)
	s.turn()
	s.checks(set...)
	s.commits(orecs, entries...)
}

// P19.2: a block that the attempt has allocated is freed by its state word in the log: it is both, and the commit does not push it.
func TestFreeOfAllocated(t *testing.T) {
	s := begun(t, config)
	s.alloc(1, 2)
	put(t, s.m, api.CellOrec, 4, held(t, 4, 2))
	s.free(2, true)
	put(t, s.m, api.CellOrec, 4, free(t, 4))
	s.commit([]int{0, 4, 6}, 18, 0, 6, 0, 7, 0)
	if h := s.m.Image().Head[1]; h != head(t, 1, -1) {
		t.Fatal(h)
	}
}

// P19.2: a block that is freed twice, with its state word in the log, ends the attempt.
func TestFreeTwice(t *testing.T) {
	s := begun(t, config)
	give(t, s.m, 0)
	s.free(0, false)
	s.askFree(4)
	s.do(local, code(api.OutFree))
	s.turn()
	s.checks(2)
	s.decide(decided(-1))
	s.pass()
	s.leaves()
	s.data(map[int]uint64{16: 1})

	s = begun(t, config)
	s.alloc(1, 2)
	s.free(2, true)
	s.askFree(6)
	s.do(local, code(api.OutFree))
	s.turn()
	s.decide(decided(-1))
	s.pass()
	s.pushes(1, 2)
	s.leaves()
}

// P19.2: an address at which no block begins ends the attempt without an access.
func TestFreeOfNoBlock(t *testing.T) {
	for _, addr := range append([]uint64{0, 3, 7, 9, 10, 11, 12, 15}, badAddresses...) {
		s := begun(t, config)
		for block := range 4 {
			give(t, s.m, block)
		}
		s.askFree(addr)
		s.do(local, code(api.OutFree))
		s.turn()
		s.decide(decided(-1))
		s.pass()
		s.leaves()
	}
}

// P19.2: a state word that is not the class plus 1 ends the attempt, with its ownership record in the read set.
func TestFreeOfFreeBlock(t *testing.T) {
	for _, v := range []uint64{0, 1, 3, 4, math.MaxUint64} {
		s := begun(t, config)
		put(t, s.m, api.CellData, 18, v)
		s.askFree(6)
		s.do(s.shared(18), code(api.OutFree))
		s.turn()
		s.checks(4)
		s.decide(decided(-1))
		s.pass()
		s.leaves()
		s.data(map[int]uint64{18: v})
	}
}

// P19.2: the read of the state word has the ends of a read: a conflict, and a full read set.
func TestFreeRead(t *testing.T) {
	s := begun(t, config)
	give(t, s.m, 2)
	put(t, s.m, api.CellOrec, 4, free(t, rv+1))
	s.askFree(6)
	s.do(load(api.PhaseOrec, api.CellOrec, 4), code(api.OutConflict))
	s.leaves()

	s = begun(t, config)
	give(t, s.m, 2)
	s.askFree(6)
	last := s.shared(18)
	put(t, s.m, api.CellOrec, 4, held(t, 4, 0))
	s.do(last, code(api.OutConflict))
	s.leaves()

	s = begun(t, config)
	give(t, s.m, 2)
	s.read(0)
	s.read(1)
	s.read(2)
	s.askFree(6)
	s.do(s.shared(18), code(api.OutCapacity))
	s.leaves()

	// The full read set comes before the state word.
	s = begun(t, config)
	s.read(0)
	s.read(1)
	s.read(2)
	s.askFree(6)
	s.do(s.shared(18), code(api.OutCapacity))
	s.leaves()
}

// P19.2: after as many Frees as the configuration permits, the next one undoes the attempt; a block that is not allocated ends it before.
func TestFreeCapacity(t *testing.T) {
	s := begun(t, config)
	give(t, s.m, 1)
	give(t, s.m, 2)
	give(t, s.m, 3)
	s.free(1, false)
	s.free(2, false)
	s.askFree(8)
	s.do(s.shared(19), code(api.OutCapacity))
	s.leaves()

	s = begun(t, config)
	give(t, s.m, 1)
	give(t, s.m, 2)
	s.free(1, false)
	s.free(2, false)
	s.askFree(8)
	s.do(s.shared(19), code(api.OutFree))
	s.turn()

	c := config
	c.Frees = 0
	s = begun(t, c)
	s.alloc(1, 2)
	s.askFree(6)
	s.do(local, code(api.OutCapacity))
	s.pushes(1, 2)
	s.leaves()
}

// P19.2: when the log is full for the state word, the attempt is undone, and the block is not freed.
func TestFreeLog(t *testing.T) {
	s := begun(t, config)
	give(t, s.m, 2)
	for addr := range 4 {
		s.write(addr, 1)
	}
	s.askFree(6)
	s.do(s.shared(18), code(api.OutCapacity))
	s.leaves()
	s.data(map[int]uint64{0: 100, 18: 2})

	// A state word that is in the log needs no place.
	s = begun(t, config)
	s.write(0, 1)
	s.alloc(1, 2)
	s.free(2, true)
}
