package attempt_test

import (
	"math/rand"
	"reflect"
	"slices"
	"testing"

	"strongtx/api"
	"strongtx/attempt"
	"strongtx/cells"
	"strongtx/freelist"
	"strongtx/layout"
)

// A client makes one attempt after another. The letters of an attempt are its operations: a to f read the words 0 to 5, A to F write them, 0 and 1 allocate a block of this class, p to r free the blocks 0 to 2, x reads beyond the words, and . and ! end it, committed or aborted.
type client struct {
	attempts []string // those that were not begun
	left     string   // operations of the one that was begun
	now      byte     // the operation that is under way
	a        *attempt.Attempt
	snapshot []uint64 // the words at its PhaseClock
	addr     int      // of its last PhaseData
	got      uint64   // by it
	ticket   uint64
	reads    map[int]uint64 // by its shared reads
	writes   map[int]uint64 // its log
}

// A world has clients and what must hold for them.
type world struct {
	t       *testing.T
	c       api.Config
	m       *cells.Mem
	clients []*client
	words   []uint64 // the words as they are after all decided writebacks
	version int      // of the last one
	freed   []int    // blocks that commits have freed
	next    uint64   // the next value that is written
	counts  counts
}

// counts tells what has happened.
type counts struct {
	commits, aborts, orec, again, check, look, lock, turn, take, push, clock, frees int
}

func (n *counts) add(o counts) {
	n.commits += o.commits
	n.aborts += o.aborts
	n.orec += o.orec
	n.again += o.again
	n.check += o.check
	n.look += o.look
	n.lock += o.lock
	n.turn += o.turn
	n.take += o.take
	n.push += o.push
	n.clock += o.clock
	n.frees += o.frees
}

// small has the blocks 0 at 2 and 1 at 3 (class 0), and 2 at 4 and 5 (class 1). Their state words are 6 to 8.
func small(orecs, clock int) api.Config {
	return api.Config{Words: 6, Orecs: orecs, Base: 2, Count: [api.Classes]int{2, 1}, Reads: 4, Writes: 6, Allocs: 2, Frees: 2, Clock: clock}
}

func newWorld(t *testing.T, c api.Config, clients ...[]string) *world {
	init := []uint64{100, 101, 102, 103, 104, 105}
	m, e := cells.New(c, len(clients), init)
	if e != api.OK {
		t.Fatal(e)
	}
	w := &world{t: t, c: c, m: m, words: m.Image().Data}
	for _, attempts := range clients {
		w.clients = append(w.clients, &client{attempts: attempts})
	}
	return w
}

// over reports whether a client has nothing more to do.
func (w *world) over(number int) bool {
	c := w.clients[number]
	return len(c.attempts) == 0 && (c.a == nil || c.a.State() == api.AttEnded)
}

// pick performs a step of a client, and returns its phase.
func (w *world) pick(number int) int {
	w.t.Helper()
	c := w.clients[number]
	if c.a == nil || c.a.State() == api.AttEnded {
		c.left, c.attempts = c.attempts[0], c.attempts[1:]
		c.reads, c.writes = map[int]uint64{}, map[int]uint64{}
		c.a = attempt.New(w.c, number)
		c.now = 0
		w.ok(c.a.Begin())
	} else if !c.a.Busy() {
		c.now, c.left = c.left[0], c.left[1:]
		w.request(c)
	}
	access, phase := c.a.Step(w.m)
	w.check(c, access, phase)
	w.count(c, access, phase)
	if !c.a.Busy() && c.a.State() == api.AttActive {
		w.complete(c)
	}
	return phase
}

func (w *world) ok(e api.Errno) {
	w.t.Helper()
	if e != api.OK {
		w.t.Fatal(e)
	}
}

// request requests the operation of a client.
func (w *world) request(c *client) {
	w.t.Helper()
	switch x := c.now; {
	case x >= 'a' && x <= 'f':
		w.ok(c.a.Read(uint64(x - 'a')))
	case x >= 'A' && x <= 'F':
		w.next++
		w.ok(c.a.Write(uint64(x-'A'), w.next))
	case x == '0' || x == '1':
		w.ok(c.a.Alloc(int(x - '0')))
	case x >= 'p' && x <= 'r':
		w.ok(c.a.Free(uint64(layout.First(w.c, int(x-'p')))))
	case x == 'x':
		w.ok(c.a.Read(6))
	case x == '.':
		w.ok(c.a.End(api.OutCommitted))
	default:
		w.ok(c.a.End(api.OutUser))
	}
}

// complete notes what an operation that is complete has done.
func (w *world) complete(c *client) {
	w.t.Helper()
	switch x := c.now; {
	case x >= 'a' && x <= 'f':
		addr := int(x - 'a')
		want, logged := c.writes[addr]
		if !logged {
			want = c.reads[addr]
		}
		if c.a.Value() != want {
			w.t.Fatalf("%d was read at %d, not %d", c.a.Value(), addr, want)
		}
	case x >= 'A' && x <= 'F':
		c.writes[int(x-'A')] = w.next
	case x == '0' || x == '1':
		blocks := c.a.Allocs()
		block := blocks[len(blocks)-1]
		class, first := layout.Class(w.c, block), layout.First(w.c, block)
		if class != int(x-'0') || c.a.Value() != uint64(first) {
			w.t.Fatalf("block %d at %d was allocated for class %c", block, c.a.Value(), x)
		}
		c.writes[6+block] = uint64(class) + 1
		for i := range 1 << class {
			c.writes[first+i] = 0
		}
	case x >= 'p' && x <= 'r':
		c.writes[6+int(x-'p')] = 0
	}
}

// check checks a step.
func (w *world) check(c *client, access api.Access, phase int) {
	w.t.Helper()
	if access.Cell == api.CellData && access.Kind != api.AccLoad {
		if access.Kind != api.AccStore || phase != api.PhaseWrite || !c.a.Decided() || c.a.Code() != api.OutCommitted {
			w.t.Fatalf("%v in phase %d by an attempt with the code %d, decided %v", access, phase, c.a.Code(), c.a.Decided())
		}
	}
	switch phase {
	case api.PhaseClock:
		c.snapshot = w.m.Image().Data
	case api.PhaseData:
		c.addr, c.got = access.Index, access.Got
	case api.PhaseAgain:
		if c.a.Code() == api.OutConflict {
			return
		}
		c.reads[c.addr] = c.got
		if c.got != c.snapshot[c.addr] {
			w.t.Fatalf("%d was read at %d of %v", c.got, c.addr, c.snapshot)
		}
	case api.PhaseTicket:
		c.ticket = access.Got
	case api.PhaseDecide:
		w.decide(c)
	case api.PhaseStamp:
		if access.Put != access.Got+1 || int(access.Put) != c.a.Version() {
			w.t.Fatalf("%v of version %d", access, c.a.Version())
		}
	}
}

// decide checks that the values that an attempt has read are those of its decision, and notes what it is going to write.
func (w *world) decide(c *client) {
	w.t.Helper()
	if !c.a.Decided() {
		return
	}
	for addr, v := range c.reads {
		if w.words[addr] != v {
			w.t.Fatalf("%d was read at %d of %v", v, addr, w.words)
		}
	}
	if c.a.Code() != api.OutCommitted || len(c.writes) == 0 {
		return
	}
	w.version++
	if c.a.Version() != w.version {
		w.t.Fatalf("version %d, want %d", c.a.Version(), w.version)
	}
	for addr, v := range c.writes {
		w.words[addr] = v
	}
	w.freed = append(w.freed, c.a.Frees()...)
}

// count counts what a step shows.
func (w *world) count(c *client, access api.Access, phase int) {
	n := &w.counts
	conflict := c.a.Code() == api.OutConflict
	for _, x := range []struct {
		counter *int
		phase   int
		happens bool
	}{
		{&n.commits, api.PhaseDecide, c.a.Version() >= 0},
		{&n.aborts, api.PhaseDecide, c.a.Decided() && c.a.Code() != api.OutCommitted},
		{&n.clock, api.PhaseDecide, !c.a.Decided()},
		{&n.frees, api.PhaseDecide, c.a.Version() >= 0 && len(c.a.Frees()) > 0},
		{&n.orec, api.PhaseOrec, conflict},
		{&n.again, api.PhaseAgain, conflict},
		{&n.check, api.PhaseCheck, conflict},
		{&n.look, api.PhaseLook, access.Got%64 != 0},
		{&n.lock, api.PhaseLock, !access.Done},
		{&n.turn, api.PhaseTurn, access.Got != c.ticket},
		{&n.take, api.PhaseTake, !access.Done},
		{&n.push, api.PhasePush, !access.Done},
	} {
		if phase == x.phase && x.happens {
			*x.counter++
		}
	}
}

// alone performs steps of one client, until it is over or waits; it may wait only for a lock or for its turn.
func (w *world) alone(number int) {
	w.t.Helper()
	waits := 0
	for range 1000 {
		if w.over(number) || waits > 20 {
			return
		}
		switch w.pick(number) {
		case api.PhaseLook, api.PhaseTurn:
			waits++
		default:
			waits = 0
		}
	}
	w.t.Fatal("a client goes on and on")
}

// finish performs what is left, and checks the cells.
func (w *world) finish() {
	w.t.Helper()
	for round := 0; !w.allOver(); round++ {
		if round > 1000 {
			w.t.Fatal("all wait")
		}
		for number := range w.clients {
			w.alone(number)
		}
	}
	i := w.m.Image()
	if !slices.Equal(i.Data, w.words) || int(i.Clock) != w.version || i.Ticket != i.Serving {
		w.t.Fatalf("%v, want the words %v and the version %d", i, w.words, w.version)
	}
	for _, o := range i.Orec {
		if o%64 != 0 {
			w.t.Fatal(i)
		}
	}
	if !reflect.DeepEqual(i.Slot, make([]uint64, len(w.clients))) {
		w.t.Fatal(i)
	}
	w.checkBlocks(i)
}

func (w *world) allOver() bool {
	for number := range w.clients {
		if !w.over(number) {
			return false
		}
	}
	return true
}

// checkBlocks checks that each block is in its list, allocated, or freed, and only once.
func (w *world) checkBlocks(i api.Image) {
	w.t.Helper()
	places := make([]int, 3)
	for class := range api.Classes {
		blocks, e := freelist.List(i, class)
		if e != api.OK {
			w.t.Fatal(i, e)
		}
		for _, b := range blocks {
			if layout.Class(w.c, b) != class {
				w.t.Fatal(i)
			}
			places[b]++
		}
	}
	for _, b := range w.freed {
		places[b]++
	}
	for b := range places {
		if i.Data[6+b] != 0 {
			places[b]++
		}
	}
	if !slices.Equal(places, []int{1, 1, 1}) {
		w.t.Fatalf("%v, freed %v: the blocks are in %v places", i, w.freed, places)
	}
}

// run performs picks, as far as the clients are not over, and what is left.
func (w *world) run(picks []int) {
	w.t.Helper()
	for _, p := range picks {
		if !w.over(p) {
			w.pick(p)
		}
	}
	w.finish()
}

// enough checks that enough has happened.
func enough(t *testing.T, least int, n counts) {
	t.Helper()
	v := reflect.ValueOf(n)
	for k := range v.NumField() {
		if v.Field(k).Int() < int64(least) {
			t.Errorf("too little has happened: %s of %+v", v.Type().Field(k).Name, n)
		}
	}
}

// P19.4: two clients under all schedules in which one of them makes some steps, and then each of the next eight is made by any of them.
func TestAllSchedules(t *testing.T) {
	const length = 8
	var sum counts
	for _, x := range [][2][]string{
		{{"aB."}, {"bA."}},
		{{"abA."}, {"AB."}},
		{{"ab."}, {"aB.", "A."}},
		{{"0.", "b!"}, {"0!", "p."}},
		{{"0Cp!"}, {"0Dq."}},
		{{"1ax"}, {"1Ab!"}},
	} {
		for begin := range 24 {
			for bits := range 1 << length {
				picks := make([]int, begin, begin+length)
				for k := range length {
					picks = append(picks, bits>>k&1)
				}
				w := newWorld(t, small(4, 1+begin%2), x[0], x[1])
				w.run(picks)
				sum.add(w.counts)
			}
		}
	}
	enough(t, 50, sum)
}

// P19.4: more clients under long schedules, in some parts of which one of them is alone.
func TestRandomSchedules(t *testing.T) {
	r := rand.New(rand.NewSource(194))
	var sum counts
	for range 3000 {
		clients := make([][]string, 2+r.Intn(3))
		for number := range clients {
			for range 4 {
				clients[number] = append(clients[number], randomAttempt(r))
			}
		}
		w := newWorld(t, small(1+r.Intn(9), r.Intn(12)), clients...)
		for range 250 {
			number := r.Intn(len(clients))
			if r.Intn(50) == 0 {
				w.alone(number)
			} else if !w.over(number) {
				w.pick(number)
			}
		}
		w.finish()
		sum.add(w.counts)
	}
	enough(t, 50, sum)
}

func randomAttempt(r *rand.Rand) string {
	var operations []byte
	for range r.Intn(6) {
		operations = append(operations, "aabbcdefAABBCDEF0011pqrx"[r.Intn(24)])
	}
	return string(append(operations, "...!"[r.Intn(4)]))
}
