package isa_test

import (
	"math"
	"slices"
	"strconv"
	"strings"
	"testing"

	"strongtx/alu"
	"strongtx/api"
	"strongtx/isa"
)

// A row is a line of the chapter's table, and what P3.2 says of the operation.
type row struct {
	op           int
	a, b, c, imm bool // the fields that count
	least, most  int  // of Imm
	text         string
	uses         string
	sets         bool
	place        int
	skips        bool
}

var rows = []row{
	{op: api.OpNop, text: "nop"},
	{op: api.OpConst, a: true, imm: true, least: math.MinInt, most: math.MaxInt, text: "const A I", sets: true},
	{op: api.OpMove, a: true, b: true, text: "move A B", uses: "B", sets: true},
	{op: api.OpArith, a: true, b: true, c: true, imm: true, most: api.Functions - 1, text: "F A B C", uses: "BC", sets: true},
	{op: api.OpJump, imm: true, most: 64, text: "jump I", skips: true},
	{op: api.OpZero, a: true, imm: true, most: 64, text: "zero A I", uses: "A", skips: true},
	{op: api.OpNonzero, a: true, imm: true, most: 64, text: "nonzero A I", uses: "A", skips: true},
	{op: api.OpBegin, imm: true, least: 1, most: 8, text: "begin I", place: api.Outside},
	{op: api.OpCommit, text: "commit", place: api.Inside},
	{op: api.OpAbort, text: "abort", place: api.Inside},
	{op: api.OpTRead, a: true, b: true, imm: true, least: math.MinInt, most: math.MaxInt, text: "tread A B I", uses: "B", sets: true, place: api.Inside},
	{op: api.OpTWrite, a: true, b: true, imm: true, least: math.MinInt, most: math.MaxInt, text: "twrite A B I", uses: "AB", place: api.Inside},
	{op: api.OpPRead, a: true, b: true, imm: true, least: math.MinInt, most: math.MaxInt, text: "pread A B I", uses: "B", sets: true, place: api.Outside},
	{op: api.OpPWrite, a: true, b: true, imm: true, least: math.MinInt, most: math.MaxInt, text: "pwrite A B I", uses: "AB", place: api.Outside},
	{op: api.OpAlloc, a: true, imm: true, most: 3, text: "alloc A I", sets: true, place: api.Inside},
	{op: api.OpFree, a: true, text: "free A", uses: "A", place: api.Inside},
	{op: api.OpFence, text: "fence", place: api.Outside},
	{op: api.OpOutcome, a: true, text: "outcome A", sets: true, place: api.Outside},
}

var registers = []int{0, 1, 2, 3, 4, 5, 6, 7}

// values returns the values of a field to try: the permitted ones, or 0.
func values(counts bool, permitted []int) []int {
	if counts {
		return permitted
	}
	return []int{0}
}

func numbers(r row) []int {
	if r.most == math.MaxInt {
		return []int{math.MinInt, math.MinInt + 1, -1 << 32, -10, -1, 0, 1, 7, 10, 63, 100, 1 << 32, math.MaxInt - 1, math.MaxInt}
	}
	var permitted []int
	for n := r.least; n <= r.most; n++ {
		permitted = append(permitted, n)
	}
	return permitted
}

// eachValid calls f with every valid instruction, except that an Imm without bounds is a sample.
func eachValid(f func(row, api.Instr)) {
	for _, r := range rows {
		for _, a := range values(r.a, registers) {
			for _, b := range values(r.b, registers) {
				for _, c := range values(r.c, registers) {
					for _, imm := range values(r.imm, numbers(r)) {
						f(r, api.Instr{Op: r.op, A: a, B: b, C: c, Imm: imm})
					}
				}
			}
		}
	}
}

var outOfRegisters = []int{math.MinInt, -1, 8, 9, 256, 1 << 32, math.MaxInt}

// wrong returns the values that a field must not have.
func wrong(counts bool) []int {
	if counts {
		return outOfRegisters
	}
	return append([]int{1, 7}, outOfRegisters...)
}

func wrongNumbers(r row) []int {
	switch {
	case r.most == math.MaxInt:
		return nil
	case r.imm:
		return []int{math.MinInt, -1, r.least - 1, r.most + 1, 1 << 32, math.MaxInt}
	}
	return wrong(false)
}

// eachInvalid calls f with instructions of all operations that have one wrong field.
func eachInvalid(f func(api.Instr)) {
	for _, r := range rows {
		good := api.Instr{Op: r.op, Imm: r.least}
		if r.most == math.MaxInt {
			good.Imm = 0
		}
		for _, n := range wrong(r.a) {
			bad := good
			bad.A = n
			f(bad)
		}
		for _, n := range wrong(r.b) {
			bad := good
			bad.B = n
			f(bad)
		}
		for _, n := range wrong(r.c) {
			bad := good
			bad.C = n
			f(bad)
		}
		for _, n := range wrongNumbers(r) {
			bad := good
			bad.Imm = n
			f(bad)
		}
	}
}

var noOperations = []int{math.MinInt, -1, api.Ops, api.Ops + 1, 256, 1 << 32, math.MaxInt}

// P3.1: the instructions of the table are valid.
func TestCheckValid(t *testing.T) {
	if len(rows) != api.Ops {
		t.Fatal(len(rows))
	}
	eachValid(func(r row, i api.Instr) {
		if e := isa.Check(i); e != api.OK {
			t.Errorf("Check(%v): %d", i, e)
		}
	})
}

// P3.1: ErrOp comes first, then ErrOperand.
func TestCheckInvalid(t *testing.T) {
	for _, op := range noOperations {
		for _, i := range []api.Instr{{Op: op}, {Op: op, A: -1, Imm: 5}, {Op: op, A: 8, B: 8, C: 8, Imm: -1}} {
			if e := isa.Check(i); e != api.ErrOp {
				t.Errorf("Check(%v): %d", i, e)
			}
		}
	}
	eachInvalid(func(i api.Instr) {
		if e := isa.Check(i); e != api.ErrOperand {
			t.Errorf("Check(%v): %d", i, e)
		}
	})
}

// wantUses returns the registers that a row names, ascending, each once.
func wantUses(r row, i api.Instr) []int {
	used := map[int]bool{}
	for _, letter := range r.uses {
		used[map[rune]int{'A': i.A, 'B': i.B, 'C': i.C}[letter]] = true
	}
	var want []int
	for _, n := range registers {
		if used[n] {
			want = append(want, n)
		}
	}
	return want
}

// P3.2: the registers, the place and the jump of every valid instruction.
func TestProperties(t *testing.T) {
	eachValid(func(r row, i api.Instr) {
		if got := isa.Uses(i); !slices.Equal(got, wantUses(r, i)) {
			t.Errorf("Uses(%v): %v; want %v", i, got, wantUses(r, i))
		}
		want := -1
		if r.sets {
			want = i.A
		}
		if got := isa.Sets(i); got != want {
			t.Errorf("Sets(%v): %d; want %d", i, got, want)
		}
		if got := isa.Place(i); got != r.place {
			t.Errorf("Place(%v): %d; want %d", i, got, r.place)
		}
		n := 0
		if r.skips {
			n = i.Imm
		}
		if got, ok := isa.Skips(i); got != n || ok != r.skips {
			t.Errorf("Skips(%v): %d, %v", i, got, ok)
		}
	})
}

// P3.2: ascending, each once.
func TestUsesOrder(t *testing.T) {
	for _, c := range []struct {
		i    api.Instr
		want []int
	}{
		{api.Instr{Op: api.OpArith, A: 0, B: 7, C: 2, Imm: api.FnSub}, []int{2, 7}},
		{api.Instr{Op: api.OpArith, A: 0, B: 2, C: 7, Imm: api.FnSub}, []int{2, 7}},
		{api.Instr{Op: api.OpArith, A: 0, B: 5, C: 5, Imm: api.FnAdd}, []int{5}},
		{api.Instr{Op: api.OpArith, A: 0, B: 6, C: 1, Imm: api.FnFromInt}, []int{1, 6}},
		{api.Instr{Op: api.OpArith, A: 0, B: 6, C: 1, Imm: api.FnToInt}, []int{1, 6}},
		{api.Instr{Op: api.OpTWrite, A: 4, B: 3, Imm: 9}, []int{3, 4}},
		{api.Instr{Op: api.OpPWrite, A: 3, B: 3, Imm: 9}, []int{3}},
		{api.Instr{Op: api.OpTRead, A: 1, B: 3}, []int{3}},
		{api.Instr{Op: api.OpOutcome, A: 1}, nil},
	} {
		if got := isa.Uses(c.i); !slices.Equal(got, c.want) {
			t.Errorf("Uses(%v): %v; want %v", c.i, got, c.want)
		}
	}
}

// P3.2: a result is new memory (R4).
func TestUsesNewMemory(t *testing.T) {
	i := api.Instr{Op: api.OpArith, A: 0, B: 1, C: 2, Imm: api.FnAdd}
	isa.Uses(i)[0] = 99
	if got := isa.Uses(i); !slices.Equal(got, []int{1, 2}) {
		t.Error(got)
	}
}

// checkNothing tests what P3.2 and P3.3 say of an invalid instruction.
func checkNothing(t *testing.T, i api.Instr) {
	t.Helper()
	if got := isa.Uses(i); len(got) != 0 {
		t.Errorf("Uses(%v): %v", i, got)
	}
	if got := isa.Sets(i); got != -1 {
		t.Errorf("Sets(%v): %d", i, got)
	}
	if got := isa.Place(i); got != api.Anywhere {
		t.Errorf("Place(%v): %d", i, got)
	}
	if got, ok := isa.Skips(i); got != 0 || ok {
		t.Errorf("Skips(%v): %d, %v", i, got, ok)
	}
	if s, e := isa.Format(i); s != "" || e != isa.Check(i) {
		t.Errorf("Format(%v): %q, %d", i, s, e)
	}
}

// P3.2, P3.3: instructions that are not valid have no registers, place, jump and text.
func TestInvalid(t *testing.T) {
	for _, op := range noOperations {
		checkNothing(t, api.Instr{Op: op})
		checkNothing(t, api.Instr{Op: op, A: 1, B: 2, Imm: 3})
	}
	eachInvalid(func(i api.Instr) { checkNothing(t, i) })
}

// wantText returns the text that the chapter's table gives.
func wantText(r row, i api.Instr) string {
	return strings.NewReplacer(
		"A", "r"+strconv.Itoa(i.A),
		"B", "r"+strconv.Itoa(i.B),
		"C", "r"+strconv.Itoa(i.C),
		"I", strconv.Itoa(i.Imm),
		"F", alu.Name(i.Imm),
	).Replace(r.text)
}

// P3.3, P3.4: the text of every valid instruction, and the way back.
func TestTexts(t *testing.T) {
	eachValid(func(r row, i api.Instr) {
		s, e := isa.Format(i)
		if s != wantText(r, i) || e != api.OK {
			t.Errorf("Format(%v): %q, %d; want %q", i, s, e, wantText(r, i))
		}
		if got, e := isa.Parse(s); got != i || e != api.OK {
			t.Errorf("Parse(%q): %v, %d", s, got, e)
		}
	})
}

// P3.3: samples of texts, with the names of functions and minus signs.
func TestFormatSamples(t *testing.T) {
	for _, c := range []struct {
		i    api.Instr
		want string
	}{
		{api.Instr{Op: api.OpConst, A: 3, Imm: -12}, "const r3 -12"},
		{api.Instr{Op: api.OpConst, A: 0, Imm: math.MinInt}, "const r0 -9223372036854775808"},
		{api.Instr{Op: api.OpArith, A: 1, B: 2, C: 3, Imm: api.FnToInt}, "toint r1 r2 r3"},
		{api.Instr{Op: api.OpArith, A: 7, B: 0, C: 0, Imm: api.FnLtu}, "ltu r7 r0 r0"},
		{api.Instr{Op: api.OpTWrite, A: 4, B: 5, Imm: -1}, "twrite r4 r5 -1"},
		{api.Instr{Op: api.OpFence}, "fence"},
	} {
		if got, e := isa.Format(c.i); got != c.want || e != api.OK {
			t.Errorf("Format(%v): %q, %d", c.i, got, e)
		}
	}
}

// P3.3: several spaces, leading zeros and minus signs.
func TestParse(t *testing.T) {
	add := api.Instr{Op: api.OpArith, A: 1, B: 2, C: 3, Imm: api.FnAdd}
	for _, c := range []struct {
		s    string
		want api.Instr
	}{
		{"   add  r1   r2 r3    ", add},
		{" nop", api.Instr{}},
		{"nop ", api.Instr{}},
		{"commit  ", api.Instr{Op: api.OpCommit}},
		{"const r0 0007", api.Instr{Op: api.OpConst, Imm: 7}},
		{"const r0 -0007", api.Instr{Op: api.OpConst, Imm: -7}},
		{"const r0 -0", api.Instr{Op: api.OpConst}},
		{"const r0 000", api.Instr{Op: api.OpConst}},
		{"const r7 9223372036854775807", api.Instr{Op: api.OpConst, A: 7, Imm: math.MaxInt}},
		{"const r7 -9223372036854775808", api.Instr{Op: api.OpConst, A: 7, Imm: math.MinInt}},
		{"const r7 -00000000000000009223372036854775808", api.Instr{Op: api.OpConst, A: 7, Imm: math.MinInt}},
		{"jump 064", api.Instr{Op: api.OpJump, Imm: 64}},
		{"begin 08", api.Instr{Op: api.OpBegin, Imm: 8}},
		{"jump -0", api.Instr{Op: api.OpJump}},
	} {
		if got, e := isa.Parse(c.s); got != c.want || e != api.OK {
			t.Errorf("Parse(%q): %v, %d", c.s, got, e)
		}
	}
}

func checkParseError(t *testing.T, s string, want api.Errno) {
	t.Helper()
	if got, e := isa.Parse(s); got != (api.Instr{}) || e != want {
		t.Errorf("Parse(%q): %v, %d; want error %d", s, got, e, want)
	}
}

// P3.3: a text has at most 200 bytes, and its length comes first.
func TestParseLength(t *testing.T) {
	for _, s := range []string{"nop", "jump 5", "const r1 -8"} {
		want, _ := isa.Parse(s)
		for _, n := range []int{199, 200} {
			for _, long := range []string{s + strings.Repeat(" ", n-len(s)), strings.Repeat(" ", n-len(s)) + s} {
				if got, e := isa.Parse(long); got != want || e != api.OK {
					t.Errorf("Parse(%q): %v, %d", long, got, e)
				}
			}
		}
		checkParseError(t, s+strings.Repeat(" ", 201-len(s)), api.ErrLen)
		checkParseError(t, s+strings.Repeat(" ", 5000), api.ErrLen)
	}
	zeros := "jump " + strings.Repeat("0", 194)
	if got, e := isa.Parse(zeros + "9"); got != (api.Instr{Op: api.OpJump, Imm: 9}) || e != api.OK {
		t.Error(got, e)
	}
	checkParseError(t, zeros+"09", api.ErrLen)
	checkParseError(t, strings.Repeat(" ", 200), api.ErrSyntax)
	checkParseError(t, strings.Repeat(" ", 201), api.ErrLen)
	checkParseError(t, strings.Repeat("x", 201), api.ErrLen)
	checkParseError(t, strings.Repeat("é", 100), api.ErrSyntax)
	checkParseError(t, strings.Repeat("é", 101), api.ErrLen)
	checkParseError(t, "begin 9"+strings.Repeat(" ", 194), api.ErrLen)
}

// P3.3: texts that are not of the required form.
func TestParseSyntax(t *testing.T) {
	for _, s := range []string{
		"", " ", "    ", "arith", "arith r1 r2 r3", "Nop", "NOP", "nops", "no", "noop", "12", "r1", "-",
		"nop nop", "nop 0", "nop r0", "commit 1", "abort r1", "fence 0",
		"const", "const r1", "const 1", "const r1 1 2", "const 1 r1", "const 1 1", "const r1 r1",
		"move r1", "move r1 2", "move r1 r2 r3", "move r1, r2", "add r1 r2", "add r1 r2 3", "add r1 r2 r3 r4", "toint r1 r2",
		"jump", "jump r1", "jump 1 2", "zero 1", "zero r1", "zero 1 r1", "zero r1 r1", "nonzero r1", "nonzero r1 1 1",
		"begin", "begin r1", "begin 1 1", "tread r1 r2", "tread r1 r2 r3", "tread r1 2 3", "tread 1 r2 3", "twrite r1 r2 1 1",
		"alloc r1", "alloc 1", "alloc r1 r1", "free", "free 1", "free r1 1", "outcome", "outcome 1", "outcome r1 r2",
		"free r8", "free r9", "free r", "free r-1", "free r01", "free r00", "free r10", "free R1", "free 1r", "free rr", "free r1r", "free r/", "free r:", "free r ", "free r 1", "free x1", "free q1", "free s1", "free r\x00", "free r１",
		"jump +5", "jump -", "jump --5", "jump 5-", "jump 5.", "jump 5.0", "jump 0x5", "jump 1_0", "jump 1e1", "jump ５", "jump - 5", "jump x", "jump -x", "jump +-5", "jump -+5", "jump 5,", "jump \"5\"",
		"jump 9223372036854775808", "jump -9223372036854775809", "jump 99999999999999999999", "const r1 18446744073709551615", "const r1 -9223372036854775809",
		"nop\t", "\tnop", "nop\n", "jump\t5", "jump \t5", "jump 5\r", "jump\u00a05", "jump 5\x00", "nop\xff", "\xff",
	} {
		checkParseError(t, s, api.ErrSyntax)
	}
}

// P3.3: the error of Check comes last.
func TestParseOperand(t *testing.T) {
	for _, s := range []string{
		"jump 65", "jump -1", "jump 9223372036854775807", "zero r1 65", "zero r1 -1", "nonzero r1 65", "nonzero r0 -1",
		"begin 0", "begin -0", "begin 9", "begin 009", "begin -1", "alloc r1 4", "alloc r1 -1",
	} {
		checkParseError(t, s, api.ErrOperand)
	}
	checkParseError(t, "zero r8 65", api.ErrSyntax)
	checkParseError(t, "begin 9 9", api.ErrSyntax)
}

// The examples of the chapter.
func TestExamples(t *testing.T) {
	i, e := isa.Parse("add r1 r2 r3")
	if i != (api.Instr{Op: api.OpArith, A: 1, B: 2, C: 3, Imm: api.FnAdd}) || e != api.OK {
		t.Error(i, e)
	}
	if s, e := isa.Format(i); s != "add r1 r2 r3" || e != api.OK {
		t.Error(s, e)
	}
	checkParseError(t, "begin 9", api.ErrOperand)
}
