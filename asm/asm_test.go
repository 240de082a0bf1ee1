package asm_test

import (
	"math"
	"math/rand"
	"slices"
	"strconv"
	"strings"
	"testing"

	"strongtx/api"
	"strongtx/asm"
	"strongtx/isa"
)

var (
	nop   = api.Instr{}
	fence = api.Instr{Op: api.OpFence}
)

func jump(n int) api.Instr       { return api.Instr{Op: api.OpJump, Imm: n} }
func zero(a, n int) api.Instr    { return api.Instr{Op: api.OpZero, A: a, Imm: n} }
func nonzero(a, n int) api.Instr { return api.Instr{Op: api.OpNonzero, A: a, Imm: n} }

func checkAssemble(t *testing.T, text string, want ...api.Instr) {
	t.Helper()
	if p, line, e := asm.Assemble(text); !slices.Equal(p, want) || line != 0 || e != api.OK {
		t.Errorf("Assemble(%.80q): %v, %d, %d; want %v", text, p, line, e, want)
	}
}

func checkError(t *testing.T, text string, line int, want api.Errno) {
	t.Helper()
	if p, l, e := asm.Assemble(text); len(p) != 0 || l != line || e != want {
		t.Errorf("Assemble(%.80q): %v, %d, %d; want line %d, error %d", text, p, l, e, line, want)
	}
}

func checkDisassemble(t *testing.T, want string, p ...api.Instr) {
	t.Helper()
	if s, e := asm.Disassemble(p); s != want || e != api.OK {
		t.Errorf("Disassemble(%v): %q, %d; want %q", p, s, e, want)
	}
}

// The example of the chapter.
func TestExample(t *testing.T) {
	checkAssemble(t, "zero r1 end\nconst r2 5 # five\nend:\n", zero(1, 1), api.Instr{Op: api.OpConst, A: 2, Imm: 5})
}

// P4.1: lines, with and without a last line feed, and comments.
func TestLines(t *testing.T) {
	for _, text := range []string{"", "\n", "\n\n\n", " ", "   \n ", "#", "#\n", "# nop", "  # nop\n", "##\n#", "a:", "a:\n", "#\t\r\x00\xff:é"} {
		checkAssemble(t, text)
	}
	for _, text := range []string{
		"nop\nfence", "nop\nfence\n", "\nnop\n\nfence\n\n", "  nop  \n fence", "nop#\nfence#fence\n", "nop # fence\nfence # a: # b\n",
		"# nop\nnop\n   # nop\n   \nfence # nop", "a:\nnop\nb:\nfence\nc:", "#a:\na: # a:\nnop\n#a:\nfence",
	} {
		checkAssemble(t, text, nop, fence)
	}
	checkError(t, "nop\r\n", 1, api.ErrSyntax)
	checkError(t, "nop\n\t\n", 2, api.ErrSyntax)
	checkError(t, "nop; nop", 1, api.ErrSyntax)
	checkError(t, "nop\n\n// comment", 3, api.ErrSyntax)
}

// P4.1: all instructions of chapter 3, as isa.Parse reads them.
func TestInstructions(t *testing.T) {
	for _, s := range []string{
		"nop", "const r7 -9223372036854775808", "  move  r1   r2 ", "toint r0 r1 r2", "jump 064", "zero r1 64", "nonzero r2 0", "begin 8", "commit", "abort",
		"tread r1 r2 -3", "twrite r1 r2 3", "pread r0 r0 0", "pwrite r0 r0 -0", "alloc r1 3", "free r3", "fence", "outcome r4",
	} {
		i, e := isa.Parse(s)
		if e != api.OK {
			t.Fatal(s, e)
		}
		checkAssemble(t, s, i)
		checkAssemble(t, "nop\n"+s+"# "+s+"\nnop", nop, i, nop)
	}
}

// P4.1: a jump with a number needs no target.
func TestNumbers(t *testing.T) {
	checkAssemble(t, "jump 64", jump(64))
	checkAssemble(t, "jump 0\nzero r1 1\nnonzero r0 9\n", jump(0), zero(1, 1), nonzero(0, 9))
	checkError(t, "jump 65", 1, api.ErrOperand)
	checkError(t, "jump -1", 1, api.ErrOperand)
}

// P4.1: Imm of a jump to a label.
func TestLabels(t *testing.T) {
	checkAssemble(t, "jump a\na:", jump(0))
	checkAssemble(t, "jump a\na:\nnop", jump(0), nop)
	checkAssemble(t, "jump a\nnop\n\n# a:\nnop\na:\nfence", jump(2), nop, nop, fence)
	checkAssemble(t, "nop\nzero r7 b\nnop\nb:", nop, zero(7, 1), nop)
	checkAssemble(t, "nonzero r0 x\nzero r3 y\njump x\nx:\nnop\ny:\nfence\n", nonzero(0, 2), zero(3, 2), jump(0), nop, fence)
	checkAssemble(t, "jump a\njump b\nnop\na:\nb:\nc:\nnop", jump(2), jump(1), nop, nop)
	checkAssemble(t, "a:\nb:\njump c\nc:\nd:", jump(0))
	checkAssemble(t, "jump b\njump 5\na:\nnop\nb: # b\n", jump(2), jump(5), nop)
	checkAssemble(t, "  a:  \nnop", nop)
	far := "jump end\n" + strings.Repeat("nop\n", 63) + "end:"
	want := append([]api.Instr{jump(63)}, make([]api.Instr, 63)...)
	checkAssemble(t, far, want...)
}

// P4.1: names of labels, also those of registers and operations.
func TestNames(t *testing.T) {
	for _, name := range []string{"a", "z", "r1", "r8", "nop", "jump", "end", "a0", "a9", "a_", "a__b", "x1y2_z3", "abcdefghijklmnopqrst", "a1234567890123456789", "a___________________"} {
		for _, format := range []string{"jump N\nnop\nN:", "  jump   N  #N\nnop # N\n  N:  #N", "jump N#\nnop\nN:#\n", "M:\njump N\nnop\nN:\nM1:"} {
			text := strings.NewReplacer("N", name, "M", "m"+name[:1]).Replace(format)
			checkAssemble(t, text, jump(1), nop)
		}
		checkAssemble(t, "zero r1 "+name+"\nnonzero r2   "+name+"\n"+name+":", zero(1, 1), nonzero(2, 0))
	}
	checkAssemble(t, "jump aa\njump a\na:\nnop\naa:\n", jump(2), jump(0), nop)
	for _, name := range []string{"", "A", "aB", "1", "1a", "_", "_a", "a-b", "a.b", "a b", "a\tb", "é", "aé", "a\x00", "{", "`", "a{", "a`", "a/", "a:", "a+", "abcdefghijklmnopqrstu", strings.Repeat("a", 190)} {
		checkError(t, "nop\n"+name+":\n", 2, api.ErrSyntax)
		if name != "1" {
			checkError(t, "\n\njump "+name+"\n", 3, api.ErrSyntax)
			checkError(t, "\n\nzero r1 "+name+"\n", 3, api.ErrSyntax)
		}
	}
	for _, s := range []string{"a :", "a: nop", "nop a:", ":", " : ", ":a", "a::", "a:b:", "a: b:", "a:b", "\ta:", "a:\t", "a:\r", "a", "a#:"} {
		checkError(t, s, 1, api.ErrSyntax)
	}
}

// P4.1: lines that only look like jumps to labels.
func TestNoJumps(t *testing.T) {
	for _, s := range []string{
		"jump", "jump a a", "jump r1 a", "zero", "zero a", "zero r1", "zero r1 a a", "zero r8 a", "zero r01 a", "zero r a", "zero a r1", "nonzero a", "nonzero 1 a", "zero a 1",
		"begin a", "const r1 a", "tread r1 r2 a", "pwrite r1 r2 a", "alloc r1 a", "add r1 r2 a", "free a", "fence a", "nop a", "Jump a", "jumpa", "jump\ta", "jump a:", "jump :a", "jump a,", "jump +a", "jump -a", "a jump",
	} {
		checkError(t, "a:\nnop\n"+s+"\na1:", 3, api.ErrSyntax)
	}
}

// P4.1: isa.Parse reads a line without its comment, and only lines with instructions.
func TestLongLines(t *testing.T) {
	long := strings.Repeat(" ", 300)
	checkAssemble(t, long)
	checkAssemble(t, long+"#"+long)
	checkAssemble(t, "nop #"+long+"\n"+"fence"+strings.Repeat(" ", 195)+"#", nop, fence)
	checkAssemble(t, long+"a:"+long+"\nnop", nop)
	checkAssemble(t, "jump"+long+"a\nzero"+long+"r1 a"+long+"\na:", jump(1), zero(1, 0))
	checkError(t, "nop\n"+long+"nop", 2, api.ErrLen)
	checkError(t, "nop\nnop"+strings.Repeat(" ", 198)+"#", 2, api.ErrLen)
	checkError(t, "nop\n"+strings.Repeat("a", 201), 2, api.ErrLen)
	checkError(t, "nop\njump"+long+"A", 2, api.ErrLen)
	checkError(t, "nop\nzero r8"+long+"a\na:", 2, api.ErrLen)
	checkError(t, "nop\njump"+long+"5", 2, api.ErrLen)
}

// P4.1: ErrLen of the text comes before all other errors, and has no line.
func TestTextLength(t *testing.T) {
	if api.MaxText != 65536 {
		t.Fatal(api.MaxText)
	}
	for _, s := range []string{"nop\n#", "nop\n", "  nop"} {
		fill := "\n"
		if strings.HasSuffix(s, "#") {
			fill = "x"
		}
		full := s + strings.Repeat(fill, api.MaxText-len(s))
		checkAssemble(t, full, nop)
		checkError(t, full+fill, 0, api.ErrLen)
	}
	for _, s := range []string{"x", "jump a\n", "a:\na:\n", "jump 65\n", "nop\n"} {
		checkError(t, strings.Repeat(s, api.MaxText/len(s)+1), 0, api.ErrLen)
	}
	checkError(t, strings.Repeat("\n", api.MaxText-1)+"x", api.MaxText, api.ErrSyntax)
	checkError(t, strings.Repeat("é", api.MaxText/2), 1, api.ErrLen)
	checkError(t, strings.Repeat("é", api.MaxText/2)+"x", 0, api.ErrLen)
}

// P4.1: at most MaxProgram instructions; labels and empty lines do not count.
func TestProgramLength(t *testing.T) {
	full := "a:\n\n# full\n" + strings.Repeat("nop\n", api.MaxProgram)
	checkAssemble(t, full, make([]api.Instr, api.MaxProgram)...)
	checkAssemble(t, full+"b:\n\n# nop", make([]api.Instr, api.MaxProgram)...)
	last := api.MaxProgram + 3
	checkError(t, full+"nop", last+1, api.ErrLen)
	checkError(t, full+"\nb:\nnop\nnop\nx", last+3, api.ErrLen)
	checkError(t, full+"jump b\nb:", last+1, api.ErrLen)
	checkError(t, full+"jump c\n", last+1, api.ErrLen)
	checkError(t, full+"x\nnop", last+1, api.ErrSyntax)
	checkError(t, full+"begin 9\nnop", last+1, api.ErrOperand)
	checkError(t, full+"a:\nnop", last+1, api.ErrLabel)
	checkError(t, full+"nop\na:", last+1, api.ErrLen)
	checkError(t, "jump c\n"+full, last+1, api.ErrLen)
}

// P4.1: a label is defined once.
func TestTwice(t *testing.T) {
	checkError(t, "a:\na:", 2, api.ErrLabel)
	checkError(t, "jump a\na:\nnop\nb:\n\n a: # a\nx", 6, api.ErrLabel)
	checkError(t, "a:\nnop\nb:\na:\nb:", 4, api.ErrLabel)
	checkError(t, "a:\nx\na:", 2, api.ErrSyntax)
	checkError(t, "a:\na:\nx", 2, api.ErrLabel)
}

// P4.1: jumps to labels that are missing or not behind the jump, after all errors of lines.
func TestUnresolved(t *testing.T) {
	for _, s := range []string{"jump a", "zero r1 a", "nonzero r1 a"} {
		checkError(t, "nop\n"+s+"\n", 2, api.ErrLabel)
		checkError(t, "nop\n"+s+"\nb:\nA1:", 4, api.ErrSyntax)
		checkError(t, "nop\n"+s+"\naa:\nb:", 2, api.ErrLabel)
		checkError(t, "a:\n"+s, 2, api.ErrLabel)
		checkError(t, "a:\n\n# a\n"+s+"\nnop", 4, api.ErrLabel)
		checkError(t, "a:\nnop\nnop\n"+s+"\nnop", 4, api.ErrLabel)
		checkError(t, "nop\na:\nb:\n"+s+"\nc:", 4, api.ErrLabel)
		checkError(t, s+"\n"+s+"\nb:\njump a\nx", 5, api.ErrSyntax)
		checkError(t, s+"\nb:\nb:", 3, api.ErrLabel)
	}
	checkError(t, "b:\nnop\njump a\n\njump b\njump c\na:", 5, api.ErrLabel)
	checkError(t, "b:\njump a\njump c\njump b\na:", 3, api.ErrLabel)
	checkError(t, "jump a\njump b\nzero r1 a\nb:\n", 1, api.ErrLabel)
}

// P4.1: the errors of isa.Parse, with their lines; the first line counts.
func TestParseErrors(t *testing.T) {
	for _, s := range []string{"x", "const r1", "begin 9", "jump 65", "zero r1 -1", "alloc r1 4", "nop nop", "const r1 9223372036854775808"} {
		_, want := isa.Parse(s)
		if want == api.OK {
			t.Fatal(s)
		}
		checkError(t, s, 1, want)
		checkError(t, "\n# x\nnop\n  "+s+" # x\nx x\nnop\n", 4, want)
		checkError(t, "nop\n"+s+"\nbegin 0", 2, want)
	}
	checkError(t, "begin 9\nx", 1, api.ErrOperand)
	checkError(t, "x\nbegin 9", 1, api.ErrSyntax)
}

// P4.2: the texts of programs, with labels within them and at their end, and jumps beyond it.
func TestDisassemble(t *testing.T) {
	checkDisassemble(t, "")
	checkDisassemble(t, "nop\nfence\n", nop, fence)
	checkDisassemble(t, "const r1 -5\nadd r1 r2 r3\ntread r1 r2 7\n", api.Instr{Op: api.OpConst, A: 1, Imm: -5}, api.Instr{Op: api.OpArith, A: 1, B: 2, C: 3}, api.Instr{Op: api.OpTRead, A: 1, B: 2, Imm: 7})
	checkDisassemble(t, "jump l1\nl1:\n", jump(0))
	checkDisassemble(t, "jump 1\n", jump(1))
	checkDisassemble(t, "nop\nzero r5 64\n", nop, zero(5, 64))
	checkDisassemble(t, "jump l1\nl1:\nnop\n", jump(0), nop)
	checkDisassemble(t, "jump l1\nnop\nl1:\n", jump(1), nop)
	checkDisassemble(t, "jump 2\nnop\n", jump(2), nop)
	checkDisassemble(t, "zero r1 l2\nnonzero r2 l1\nnop\nl1:\nfence\nl2:\n", zero(1, 3), nonzero(2, 1), nop, fence)
	checkDisassemble(t, "jump l2\njump l1\nl1:\njump l2\nnop\nl2:\njump l3\nl3:\njump 5\n", jump(3), jump(0), jump(1), nop, jump(0), jump(5))
	checkDisassemble(t, "begin 3\ntwrite r0 r1 2\ncommit\n", api.Instr{Op: api.OpBegin, Imm: 3}, api.Instr{Op: api.OpTWrite, A: 0, B: 1, Imm: 2}, api.Instr{Op: api.OpCommit})
	checkDisassemble(t, "begin 1\njump l1\nl1:\nabort\ncommit\n", api.Instr{Op: api.OpBegin, Imm: 1}, jump(0), api.Instr{Op: api.OpAbort}, api.Instr{Op: api.OpCommit})
}

// P4.2: the names ascend with the positions, and only jumps need names.
func TestManyLabels(t *testing.T) {
	var p []api.Instr
	want := ""
	for n := range api.MaxProgram {
		p = append(p, nonzero(n%8, 0))
		if n > 0 {
			want += "l" + strconv.Itoa(n) + ":\n"
		}
		want += "nonzero r" + strconv.Itoa(n%8) + " l" + strconv.Itoa(n+1) + "\n"
	}
	checkDisassemble(t, want+"l64:\n", p...)
	p = slices.Repeat([]api.Instr{nop}, api.MaxProgram)
	p[0] = jump(63)
	checkDisassemble(t, "jump l1\n"+strings.Repeat("nop\n", 63)+"l1:\n", p...)
	p[0] = jump(64)
	checkDisassemble(t, "jump 64\n"+strings.Repeat("nop\n", 63), p...)
}

// P4.2: ErrLen, then the error of isa.Check for the first instruction that is not valid.
func TestDisassembleErrors(t *testing.T) {
	noOp, operand := api.Instr{Op: api.Ops}, api.Instr{Op: api.OpBegin, Imm: 9}
	tooLong := make([]api.Instr, api.MaxProgram+1)
	spoilt := slices.Clone(tooLong)
	spoilt[0] = noOp
	for _, c := range []struct {
		p    []api.Instr
		want api.Errno
	}{
		{tooLong, api.ErrLen},
		{spoilt, api.ErrLen},
		{spoilt[:api.MaxProgram], api.ErrOp},
		{[]api.Instr{noOp}, api.ErrOp},
		{[]api.Instr{{Op: -1}}, api.ErrOp},
		{[]api.Instr{{Op: math.MinInt, A: math.MaxInt}}, api.ErrOp},
		{[]api.Instr{operand}, api.ErrOperand},
		{[]api.Instr{nop, noOp, operand}, api.ErrOp},
		{[]api.Instr{nop, operand, noOp}, api.ErrOperand},
		{[]api.Instr{jump(65)}, api.ErrOperand},
		{[]api.Instr{jump(-1), nop}, api.ErrOperand},
		{[]api.Instr{jump(math.MaxInt)}, api.ErrOperand},
		{[]api.Instr{jump(0), {Op: api.OpNop, C: 1}}, api.ErrOperand},
		{append(make([]api.Instr, api.MaxProgram-1), zero(8, 0)), api.ErrOperand},
	} {
		if s, e := asm.Disassemble(c.p); s != "" || e != c.want {
			t.Errorf("Disassemble(%v): %q, %d; want error %d", c.p, s, e, c.want)
		}
	}
	if _, e := asm.Disassemble(tooLong[:api.MaxProgram]); e != api.OK {
		t.Error(e)
	}
}

// P4.3 for one program, whose argument stays as it is (R4).
func checkBack(t *testing.T, p []api.Instr) {
	t.Helper()
	before := slices.Clone(p)
	s, e := asm.Disassemble(p)
	if e != api.OK || !slices.Equal(p, before) {
		t.Fatalf("Disassemble(%v): %d", before, e)
	}
	checkAssemble(t, s, p...)
}

// P4.3: all programs of up to three jumps of any length.
func TestBackJumps(t *testing.T) {
	checkBack(t, nil)
	for a := range api.MaxProgram + 1 {
		checkBack(t, []api.Instr{jump(a)})
		for b := range 5 {
			checkBack(t, []api.Instr{zero(1, b), jump(a)})
			for c := range 5 {
				checkBack(t, []api.Instr{jump(b), nonzero(7, c), jump(a)})
				checkBack(t, []api.Instr{jump(a), zero(0, b), zero(1, c)})
			}
		}
	}
}

// randomInstr returns a valid instruction; half of them are jumps.
func randomInstr(r *rand.Rand) api.Instr {
	for {
		i := api.Instr{Op: r.Intn(api.Ops), A: r.Intn(8), B: r.Intn(8), C: r.Intn(8), Imm: r.Intn(65)}
		switch {
		case r.Intn(2) == 0:
			i.Op = api.OpJump + r.Intn(3)
		case i.Op == api.OpConst || i.Op == api.OpTRead || i.Op == api.OpPWrite:
			i.Imm = int(r.Uint64())
		}
		for _, clear := range []func(){func() {}, func() { i.C = 0 }, func() { i.B = 0 }, func() { i.A = 0 }, func() { i.Imm = 0 }} {
			if clear(); isa.Check(i) == api.OK {
				return i
			}
		}
	}
}

// P4.2: no text of a jump within a program has a number, and each other one has it.
func checkNumbers(t *testing.T, p []api.Instr) {
	t.Helper()
	s, _ := asm.Disassemble(p)
	var lines []string
	for _, line := range strings.Split(strings.TrimSuffix(s, "\n"), "\n") {
		if !strings.HasSuffix(line, ":") {
			lines = append(lines, line)
		}
	}
	if len(lines) != len(p) {
		t.Fatalf("%d lines of %d instructions: %q", len(lines), len(p), s)
	}
	for at, i := range p {
		text, _ := isa.Format(i)
		n, jumps := isa.Skips(i)
		if within := jumps && at+1+n <= len(p); within == (lines[at] == text) {
			t.Errorf("instruction %d of %q: %q", at, s, lines[at])
		}
	}
}

// P4.2, P4.3: programs of all kinds of instructions.
func TestBackRandom(t *testing.T) {
	r := rand.New(rand.NewSource(4))
	for range 3000 {
		p := make([]api.Instr, 1+r.Intn(api.MaxProgram))
		for at := range p {
			p[at] = randomInstr(r)
		}
		checkBack(t, p)
		checkNumbers(t, p)
	}
}

// FuzzAssemble looks for texts that break P4.3, R1 or R2.
func FuzzAssemble(f *testing.F) {
	f.Add("zero r1 end\nconst r2 5 # five\nend:\n")
	f.Add("jump 64\na:\nb: #\njump c\nc:")
	f.Fuzz(func(t *testing.T, text string) {
		p, line, e := asm.Assemble(text)
		if e != api.OK {
			if len(p) != 0 || (line == 0) != (len(text) > api.MaxText) || line > strings.Count(text, "\n")+1 {
				t.Errorf("Assemble(%q): %v, %d, %d", text, p, line, e)
			}
			return
		}
		if line != 0 {
			t.Errorf("Assemble(%q): line %d", text, line)
		}
		checkBack(t, p)
	})
}
