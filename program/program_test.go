package program_test

import (
	"math"
	"math/rand"
	"slices"
	"strings"
	"testing"

	"strongtx/api"
	"strongtx/isa"
	"strongtx/program"
)

// parse returns the program whose instructions are separated by semicolons. An instruction in parentheses is one that is not valid.
func parse(t *testing.T, text string) []api.Instr {
	t.Helper()
	var p []api.Instr
	for line := range strings.SplitSeq(text, ";") {
		switch line = strings.TrimSpace(line); line {
		case "":
		case "(op)":
			p = append(p, api.Instr{Op: api.Ops})
		case "(begin)":
			p = append(p, api.Instr{Op: api.OpBegin, Imm: api.MaxAttempts + 1})
		case "(commit)":
			p = append(p, api.Instr{Op: api.OpCommit, A: 1})
		case "(jump)":
			p = append(p, api.Instr{Op: api.OpJump, Imm: -1})
		default:
			i, e := isa.Parse(line)
			if e != api.OK {
				t.Fatal(line, e)
			}
			p = append(p, i)
		}
	}
	return p
}

func nops(n int) []api.Instr {
	return make([]api.Instr, n)
}

const example = "begin 2; tread r0 r1 0; zero r0 1; abort; twrite r1 r0 0; commit"

func TestExample(t *testing.T) {
	p := parse(t, example)
	if at, e := program.Check(p); at != 0 || e != api.OK {
		t.Error(at, e)
	}
	if n := program.Commit(p, 0); n != 5 {
		t.Error(n)
	}
	if n := program.Longest(p); n != 5 {
		t.Error(n)
	}
	if r, w, a, f := program.Needs(p, 0); r != 1 || w != 1 || a != 0 || f != 0 {
		t.Error(r, w, a, f)
	}
}

var checks = []struct {
	text string
	at   int
	e    api.Errno
}{
	{"", 0, api.OK},
	{"nop", 0, api.OK},
	{"begin 1; commit", 0, api.OK},
	{"begin 1; commit; begin 8; nop; commit; fence", 0, api.OK},
	{"const r0 1; begin 1; move r0 r1; add r0 r1 r2; commit; jump 0", 0, api.OK},
	{"begin 1; alloc r0 3; free r0; tread r0 r1 -1; twrite r0 r1 5; abort; commit", 0, api.OK},
	{"fence; pread r0 r1 0; pwrite r0 r1 0; outcome r2", 0, api.OK},

	// An instruction that is not valid.
	{"nop; (op)", 1, api.ErrOp},
	{"(begin); commit", 0, api.ErrOperand},
	{"begin 1; (commit)", 1, api.ErrOperand},
	{"(jump)", 0, api.ErrOperand},
	{"begin 1; (begin); commit", 1, api.ErrOperand}, // before ErrNest
	{"(commit)", 0, api.ErrOperand},

	// Begins and commits.
	{"commit", 0, api.ErrNest},
	{"begin 1; commit; commit", 2, api.ErrNest},
	{"begin 1; begin 1; commit", 1, api.ErrNest},
	{"begin 1; nop; begin 1; commit; commit", 2, api.ErrNest},
	{"begin 1; begin 1", 1, api.ErrNest}, // before ErrOpen

	// Places.
	{"abort", 0, api.ErrPlace},
	{"nop; tread r0 r1 0", 1, api.ErrPlace},
	{"twrite r0 r1 0", 0, api.ErrPlace},
	{"alloc r0 0", 0, api.ErrPlace},
	{"free r0", 0, api.ErrPlace},
	{"begin 1; pread r0 r1 0; commit", 1, api.ErrPlace},
	{"begin 1; pwrite r0 r1 0; commit", 1, api.ErrPlace},
	{"begin 1; nop; fence; commit", 2, api.ErrPlace},
	{"begin 1; outcome r0; commit", 1, api.ErrPlace},
	{"begin 1; commit; abort", 2, api.ErrPlace},
	{"begin 1; fence", 1, api.ErrPlace}, // before ErrOpen

	// Targets outside of transactions.
	{"jump 0", 0, api.OK},
	{"jump 1", 0, api.ErrTarget},
	{"jump 64", 0, api.ErrTarget},
	{"zero r0 1", 0, api.ErrTarget},
	{"nonzero r0 1; nop", 0, api.OK},
	{"nonzero r0 2; nop", 0, api.ErrTarget},
	{"jump 0; begin 1; nop; commit", 0, api.OK}, // the begin
	{"jump 1; begin 1; nop; commit", 0, api.ErrTarget},
	{"zero r0 2; begin 1; nop; commit", 0, api.ErrTarget}, // the commit
	{"jump 3; begin 1; nop; commit", 0, api.OK},           // the end
	{"jump 4; begin 1; nop; commit", 0, api.ErrTarget},
	{"jump 2; begin 1; commit; begin 1; commit", 0, api.OK},
	{"jump 3; begin 1; commit; begin 1; commit", 0, api.ErrTarget},
	{"jump 4; begin 1; commit; begin 1; commit", 0, api.OK},
	{"begin 1; commit; jump 1; begin 1; commit", 2, api.ErrTarget},

	// Targets of jumps in transactions.
	{"begin 1; jump 0; commit", 0, api.OK}, // the commit
	{"begin 1; jump 1; commit", 1, api.ErrTarget},
	{"begin 1; jump 1; commit; nop", 1, api.ErrTarget},
	{"begin 1; zero r0 1; nop; commit; nop", 0, api.OK},
	{"begin 1; zero r0 2; nop; commit; nop", 1, api.ErrTarget},
	{"begin 1; nonzero r0 1; commit; begin 1; commit", 1, api.ErrTarget}, // another begin
	{"begin 1; nonzero r0 2; commit; begin 1; commit", 1, api.ErrTarget}, // another transaction

	// Op alone begins and ends transactions.
	{"jump 1; (begin); nop; commit", 0, api.ErrTarget},
	{"jump 0; (begin); nop; commit", 1, api.ErrOperand},
	{"jump 2; begin 1; (commit); nop", 2, api.ErrOperand}, // behind the commit
	{"jump 1; begin 1; (commit); nop", 0, api.ErrTarget},
	{"begin 1; jump 1; (commit); nop", 1, api.ErrTarget},
	{"begin 1; jump 0; (commit); nop", 2, api.ErrOperand},

	// A begin in a transaction begins no other one, and the first commit ends it.
	{"begin 1; jump 1; begin 1; nop; commit", 2, api.ErrNest},
	{"jump 3; begin 1; begin 1; commit; nop; commit", 2, api.ErrNest},
	{"jump 2; begin 1; begin 1; commit; nop; commit", 0, api.ErrTarget},

	// A transaction that is open at the end.
	{"begin 1", 0, api.ErrOpen},
	{"nop; begin 1; nop", 1, api.ErrOpen},
	{"begin 1; commit; begin 1; nop", 2, api.ErrOpen},
	{"begin 1; jump 1; nop", 0, api.ErrOpen},
	{"nop; begin 1; jump 0", 1, api.ErrOpen}, // the end
	{"begin 1; jump 1; nop; zero r0 1", 3, api.ErrTarget},
	{"jump 0; begin 1; nop", 1, api.ErrOpen}, // the begin
	{"jump 1; begin 1; nop", 0, api.ErrTarget},
	{"jump 2; begin 1; nop", 1, api.ErrOpen}, // the end
	{"jump 3; begin 1; nop", 0, api.ErrTarget},
	{"begin 1; jump 2; begin 1; nop", 2, api.ErrNest},

	// The first position with an error, not the first kind.
	{"abort; (op)", 0, api.ErrPlace},
	{"zero r0 64; commit", 0, api.ErrTarget},
	{"nop; commit; (op); abort", 1, api.ErrNest},
}

func TestCheck(t *testing.T) {
	for _, c := range checks {
		if at, e := program.Check(parse(t, c.text)); at != c.at || e != c.e {
			t.Errorf("%s: %d %d, want %d %d", c.text, at, e, c.at, c.e)
		}
	}
}

func TestLength(t *testing.T) {
	long := nops(api.MaxProgram + 1)
	long[3].Op = -1 // ErrLen comes before all other errors
	for _, p := range [][]api.Instr{nops(api.MaxProgram + 1), long, nops(100000)} {
		if at, e := program.Check(p); at != 0 || e != api.ErrLen {
			t.Error(len(p), at, e)
		}
		if n := program.Longest(p); n != -1 {
			t.Error(len(p), n)
		}
	}
	for _, p := range [][]api.Instr{nil, {}, nops(1), nops(api.MaxProgram)} {
		if at, e := program.Check(p); at != 0 || e != api.OK {
			t.Error(len(p), at, e)
		}
		if n := program.Longest(p); n != len(p) {
			t.Error(len(p), n)
		}
	}
	whole := nops(api.MaxProgram)
	whole[0] = api.Instr{Op: api.OpBegin, Imm: 1}
	whole[1] = api.Instr{Op: api.OpJump, Imm: api.MaxProgram - 3}
	whole[api.MaxProgram-1].Op = api.OpCommit
	if at, e := program.Check(whole); at != 0 || e != api.OK || program.Longest(whole) != 3 || program.Commit(whole, 0) != 63 {
		t.Error(at, e, program.Longest(whole), program.Commit(whole, 0))
	}
}

func TestCommit(t *testing.T) {
	p := parse(t, "nop; begin 1; commit; jump 0; begin 8; zero r0 1; abort; commit; begin 2; abort; commit")
	want := map[int]int{1: 2, 4: 7, 8: 10}
	for _, k := range []int{math.MinInt, -1, 0, 1, 2, 3, 4, 5, 6, 7, 8, 9, 10, 11, 12, math.MaxInt} {
		commit, begins := want[k]
		if !begins {
			commit = -1
		}
		if n := program.Commit(p, k); n != commit {
			t.Error(k, n)
		}
	}
	if n := program.Commit(nil, 0); n != -1 {
		t.Error(n)
	}
}

var lengths = []struct {
	text string
	n    int
}{
	{"", 0},
	{"nop", 1},
	{"begin 1; tread r0 r0 0; commit; fence", 4},
	{"jump 2; nop; nop; nop", 2},
	{"jump 3; nop; nop; nop", 1}, // to the end
	{"zero r0 2; nop; nop; nop", 4},
	{"nonzero r0 2; nop; nop; nop", 4},
	{"zero r0 1; jump 2; nop; nop; nop", 4}, // the target's side is longer
	{"begin 1; abort; nop; nop; commit; nop", 3},
	{"begin 1; abort; commit", 2},
	{"begin 1; zero r0 3; nop; nop; abort; nop; commit", 5},
	{"begin 1; zero r0 1; abort; commit; begin 1; nonzero r1 1; abort; commit", 6},
	{"jump 3; begin 1; nop; commit; nop", 2},
	{"zero r0 1; jump 1; jump 1; nop; nop", 4},
}

func TestLongest(t *testing.T) {
	for _, c := range lengths {
		p := parse(t, c.text)
		if at, e := program.Check(p); e != api.OK {
			t.Fatal(c.text, at, e)
		}
		if n := program.Longest(p); n != c.n {
			t.Errorf("%s: %d, want %d", c.text, n, c.n)
		}
	}
}

type needs struct{ reads, writes, allocs, frees int }

func needsOf(p []api.Instr, k int) needs {
	r, w, a, f := program.Needs(p, k)
	return needs{r, w, a, f}
}

var logs = []struct {
	text string
	k    int
	want needs
}{
	{"begin 1; commit", 0, needs{}},
	{"begin 1; tread r0 r0 0; tread r0 r0 0; commit", 0, needs{reads: 2}},
	{"begin 1; twrite r0 r0 0; twrite r0 r0 0; commit", 0, needs{writes: 2}},
	{"begin 1; free r0; commit", 0, needs{1, 1, 0, 1}},
	{"begin 1; alloc r0 0; commit", 0, needs{writes: 2, allocs: 1}},
	{"begin 1; alloc r0 1; commit", 0, needs{writes: 3, allocs: 1}},
	{"begin 1; alloc r0 2; commit", 0, needs{writes: 5, allocs: 1}},
	{"begin 1; alloc r0 3; commit", 0, needs{writes: 9, allocs: 1}},
	{"begin 1; alloc r0 3; free r0; alloc r0 0; tread r0 r0 0; twrite r0 r0 0; commit", 0, needs{2, 13, 2, 1}},

	// The greatest numbers may be those of different paths.
	{"begin 1; zero r0 3; tread r0 r0 0; tread r0 r0 0; jump 1; alloc r0 0; twrite r0 r0 0; commit", 0, needs{2, 3, 1, 0}},
	{"begin 1; zero r0 3; free r0; free r0; jump 2; alloc r0 2; alloc r0 2; commit", 0, needs{2, 10, 2, 2}},
	{"begin 1; nonzero r0 2; alloc r0 3; jump 2; alloc r0 0; alloc r0 0; commit", 0, needs{0, 9, 2, 0}},

	// What no path reaches, or comes behind an abort, does not count.
	{"begin 1; jump 1; tread r0 r0 0; commit", 0, needs{}},
	{"begin 1; twrite r0 r0 0; abort; twrite r0 r0 0; commit", 0, needs{writes: 1}},
	{"begin 1; zero r0 2; free r0; abort; tread r0 r0 0; commit", 0, needs{1, 1, 0, 1}},

	// Each transaction for itself; one that is jumped over has its paths, too.
	{"begin 1; tread r0 r0 0; abort; commit; begin 1; twrite r0 r0 0; commit", 0, needs{reads: 1}},
	{"begin 1; tread r0 r0 0; abort; commit; begin 1; twrite r0 r0 0; commit", 4, needs{writes: 1}},
	{"jump 3; begin 1; tread r0 r0 0; commit", 1, needs{reads: 1}},

	// No begin at k.
	{"begin 1; tread r0 r0 0; commit", 1, needs{}},
	{"begin 1; tread r0 r0 0; commit", 2, needs{}},
	{"begin 1; tread r0 r0 0; commit", 3, needs{}},
	{"begin 1; tread r0 r0 0; commit", -1, needs{}},
	{"begin 1; tread r0 r0 0; commit", math.MinInt, needs{}},
	{"begin 1; tread r0 r0 0; commit", math.MaxInt, needs{}},
}

func TestNeeds(t *testing.T) {
	for _, c := range logs {
		p := parse(t, c.text)
		if at, e := program.Check(p); e != api.OK {
			t.Fatal(c.text, at, e)
		}
		if n := needsOf(p, c.k); n != c.want {
			t.Errorf("%s, %d: %+v, want %+v", c.text, c.k, n, c.want)
		}
	}
}

func TestNotValid(t *testing.T) {
	const whole = "begin 1; tread r0 r0 0; free r0; alloc r0 0; commit; "
	for _, rest := range []string{"(op)", "(begin)", "(jump)", "commit", "abort", "jump 1", "begin 1", "begin 1; begin 1; commit"} {
		p := parse(t, whole+rest)
		for k := -1; k <= len(p); k++ {
			if n := program.Commit(p, k); n != -1 {
				t.Error(rest, k, n)
			}
			if n := needsOf(p, k); n != (needs{}) {
				t.Error(rest, k, n)
			}
		}
		if n := program.Longest(p); n != -1 {
			t.Error(rest, n)
		}
	}
}

// The following oracle marks each position with the begin of its transaction, and follows each path for itself.

const outside = -1

// marks returns, for each position, the begin of the transaction in which it lies, and the begin of the one that is open at the end.
func marks(p []api.Instr) (homes []int, open int) {
	open = outside
	for k, i := range p {
		homes = append(homes, open)
		if i.Op == api.OpBegin && open == outside {
			open = k
		}
		if i.Op == api.OpCommit {
			open = outside
		}
	}
	return homes, open
}

func expected(p []api.Instr) (int, api.Errno) {
	homes, open := marks(p)
	for k, i := range p {
		in := homes[k] != outside
		skips, jumps := isa.Skips(i)
		target := k + 1 + skips
		switch {
		case isa.Check(i) != api.OK:
			return k, isa.Check(i)
		case i.Op == api.OpBegin && in, i.Op == api.OpCommit && !in:
			return k, api.ErrNest
		case isa.Place(i) == api.Inside && !in, isa.Place(i) == api.Outside && in:
			return k, api.ErrPlace
		case jumps && target > len(p):
			return k, api.ErrTarget
		case jumps && target < len(p) && homes[target] != homes[k]:
			return k, api.ErrTarget
		case jumps && target == len(p) && in && homes[k] != open:
			return k, api.ErrTarget
		}
	}
	if open != outside {
		return open, api.ErrOpen
	}
	return 0, api.OK
}

// walk calls visit with each path of a valid program from position k on.
func walk(p []api.Instr, k int, path []int, visit func([]int)) {
	if k == len(p) {
		visit(path)
		return
	}
	path = append(path, k)
	skips, _ := isa.Skips(p[k])
	switch p[k].Op {
	case api.OpAbort:
		for p[k].Op != api.OpCommit {
			k++
		}
		walk(p, k+1, path, visit)
	case api.OpZero, api.OpNonzero:
		walk(p, k+1, path, visit)
		walk(p, k+1+skips, path, visit)
	default:
		walk(p, k+1+skips, path, visit)
	}
}

// count returns what the instructions of a path from the begin to the commit need.
func count(p []api.Instr, path []int, begin, commit int) needs {
	var n needs
	for _, k := range path {
		if k < begin || k > commit {
			continue
		}
		switch p[k].Op {
		case api.OpTRead:
			n.reads++
		case api.OpTWrite:
			n.writes++
		case api.OpAlloc:
			n.writes += []int{2, 3, 5, 9}[p[k].Imm]
			n.allocs++
		case api.OpFree:
			n.reads++
			n.writes++
			n.frees++
		}
	}
	return n
}

func greater(a, b needs) needs {
	return needs{max(a.reads, b.reads), max(a.writes, b.writes), max(a.allocs, b.allocs), max(a.frees, b.frees)}
}

// checkPaths compares the functions for a valid program with those of all its paths.
func checkPaths(t *testing.T, p []api.Instr) {
	t.Helper()
	longest := 0
	walk(p, 0, nil, func(path []int) {
		longest = max(longest, len(path))
		if !slices.IsSorted(path) || len(slices.Compact(slices.Clone(path))) != len(path) {
			t.Error(p, path, "visits a position twice")
		}
	})
	if n := program.Longest(p); n != longest {
		t.Error(p, n, longest)
	}
	for k, i := range p {
		commit := outside
		if i.Op == api.OpBegin {
			commit = k + slices.IndexFunc(p[k:], func(i api.Instr) bool { return i.Op == api.OpCommit })
		}
		if n := program.Commit(p, k); n != commit {
			t.Error(p, k, n, commit)
		}
		var want needs
		if commit != outside {
			walk(p[:commit+1], k, nil, func(path []int) { want = greater(want, count(p, path, k, commit)) })
		}
		if n := needsOf(p, k); n != want {
			t.Error(p, k, n, want)
		}
	}
}

// TestAllShort looks at all programs of up to four instructions of a small set, some of which are not valid.
func TestAllShort(t *testing.T) {
	set := parse(t, "(op); (begin); (commit); begin 1; commit; abort; fence; nop; tread r0 r0 0; alloc r0 1; jump 0; jump 1; zero r0 1; zero r0 2; jump 3")
	var p []api.Instr
	valid := 0
	var extend func()
	extend = func() {
		at, e := program.Check(p)
		if wantAt, want := expected(p); at != wantAt || e != want {
			t.Fatal(p, at, e, wantAt, want)
		}
		if e == api.OK {
			valid++
			checkPaths(t, p)
		} else if program.Longest(p) != -1 {
			t.Fatal(p, program.Longest(p))
		}
		if len(p) == 4 {
			return
		}
		for _, i := range set {
			p = append(p, i)
			extend()
			p = p[:len(p)-1]
		}
	}
	extend()
	if valid < 800 {
		t.Error("only", valid, "programs are valid")
	}
}

// random returns a program of n instructions whose begins, commits and places are right, and whose jumps have targets that are permitted.
func random(r *rand.Rand, n int) []api.Instr {
	inside := parseAll("tread r0 r1 0", "twrite r0 r1 0", "alloc r0 0", "alloc r0 1", "alloc r0 2", "alloc r0 3", "free r0", "nop", "zero r0 0", "nonzero r1 0", "zero r0 0", "jump 0", "abort", "commit")
	around := parseAll("fence", "pread r0 r1 0", "pwrite r0 r1 0", "outcome r0", "nop", "zero r0 0", "nonzero r0 0", "jump 0", "begin 1", "begin 2", "begin 3")
	var p []api.Instr
	open := false
	for k := range n {
		set := around
		if open {
			set = inside
		} else if k == n-1 {
			set = around[:4]
		}
		i := set[r.Intn(len(set))]
		if open && k == n-1 {
			i = api.Instr{Op: api.OpCommit}
		}
		open = open && i.Op != api.OpCommit || i.Op == api.OpBegin
		p = append(p, i)
	}
	for k := range p {
		if _, jumps := isa.Skips(p[k]); jumps {
			p[k].Imm = r.Intn(len(p))
			for {
				if at, e := expected(p); e != api.ErrTarget || at > k {
					break
				}
				p[k].Imm--
			}
		}
	}
	return p
}

func parseAll(lines ...string) []api.Instr {
	var p []api.Instr
	for _, line := range lines {
		i, _ := isa.Parse(line)
		p = append(p, i)
	}
	return p
}

func TestRandomValid(t *testing.T) {
	r := rand.New(rand.NewSource(6))
	for range 3000 {
		p := random(r, 1+r.Intn(24))
		before := slices.Clone(p)
		if at, e := program.Check(p); at != 0 || e != api.OK {
			t.Fatal(p, at, e)
		}
		checkPaths(t, p)
		if !slices.Equal(p, before) {
			t.Fatal(before, "was changed to", p)
		}
	}
}

// TestRandomBroken changes valid programs at one or two positions.
func TestRandomBroken(t *testing.T) {
	r := rand.New(rand.NewSource(7))
	found := map[api.Errno]int{}
	for range 20000 {
		p := random(r, 2+r.Intn(30))
		for range 1 + r.Intn(2) {
			i := &p[r.Intn(len(p))]
			switch r.Intn(4) {
			case 0:
				*i = api.Instr{Op: r.Intn(api.Ops+2) - 1}
			case 1:
				i.Imm = r.Intn(70) - 2
			case 2:
				*i = api.Instr{Op: []int{api.OpBegin, api.OpCommit}[r.Intn(2)], Imm: r.Intn(2)}
			case 3:
				*i = api.Instr{Op: api.OpJump, Imm: r.Intn(len(p))}
			}
		}
		at, e := program.Check(p)
		if wantAt, want := expected(p); at != wantAt || e != want {
			t.Fatal(p, at, e, wantAt, want)
		}
		found[e]++
	}
	for _, e := range []api.Errno{api.OK, api.ErrOp, api.ErrOperand, api.ErrNest, api.ErrPlace, api.ErrTarget, api.ErrOpen} {
		if found[e] < 50 {
			t.Error("error", e, "was found", found[e], "times only")
		}
	}
}

// TestStraight checks P6.3: without jumps and aborts, the path is all of the program.
func TestStraight(t *testing.T) {
	r := rand.New(rand.NewSource(8))
	for range 500 {
		p := random(r, 1+r.Intn(api.MaxProgram))
		for k := range p {
			if _, jumps := isa.Skips(p[k]); jumps || p[k].Op == api.OpAbort {
				p[k] = api.Instr{Op: api.OpNop}
			}
		}
		if n := program.Longest(p); n != len(p) {
			t.Fatal(p, n)
		}
	}
}

// TestManyPaths has a number of paths that no one can follow one by one.
func TestManyPaths(t *testing.T) {
	p := nops(api.MaxProgram)
	p[0] = api.Instr{Op: api.OpBegin, Imm: 1}
	for k := 1; k < len(p)-2; k++ {
		p[k] = api.Instr{Op: api.OpZero, Imm: 1}
	}
	p[len(p)-2].Op = api.OpFree
	p[len(p)-1].Op = api.OpCommit
	if n := program.Longest(p); n != len(p) {
		t.Error(n)
	}
	if n := needsOf(p, 0); n != (needs{1, 1, 0, 1}) {
		t.Error(n)
	}
}

func TestExtremes(t *testing.T) {
	for _, n := range []int{math.MinInt, -1, api.MaxProgram + 1, math.MaxInt} {
		for op := -1; op <= api.Ops; op++ {
			p := []api.Instr{{Op: api.OpNop}, {Op: op, A: n, B: n, C: n, Imm: n}, {Op: op, Imm: n}}
			at, e := program.Check(p)
			if wantAt, want := expected(p); at != wantAt || e != want {
				t.Error(p, at, e)
			}
			if program.Longest(p) != -1 || program.Commit(p, n) != -1 || needsOf(p, n) != (needs{}) {
				t.Error(p)
			}
		}
	}
}
