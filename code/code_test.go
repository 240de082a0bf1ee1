package code_test

import (
	"bytes"
	"math"
	"math/rand"
	"slices"
	"testing"

	"strongtx/api"
	"strongtx/code"
)

// same tells whether two scripts are the same, where nil and empty lists are.
func same(s, t api.Script) bool {
	return s.Config == t.Config && slices.Equal(s.Init, t.Init) && slices.Equal(s.Picks, t.Picks) &&
		slices.EqualFunc(s.Programs, t.Programs, slices.Equal[[]api.Instr])
}

func encode(t *testing.T, s api.Script) []byte {
	t.Helper()
	b, e := code.Encode(s)
	if e != api.OK {
		t.Fatalf("Encode: error %d", e)
	}
	return b
}

// checkBytes checks both ways between a script and its bytes.
func checkBytes(t *testing.T, s api.Script, want []byte) {
	t.Helper()
	if b, e := code.Encode(s); !bytes.Equal(b, want) || e != api.OK {
		t.Errorf("Encode(%v): % X, %d; want % X", s, b, e, want)
	}
	if d, e := code.Decode(want); !same(d, s) || e != api.OK {
		t.Errorf("Decode(% X): %v, %d; want %v", want, d, e, s)
	}
}

func checkTooLong(t *testing.T, s api.Script) {
	t.Helper()
	if b, e := code.Encode(s); len(b) != 0 || e != api.ErrLen {
		t.Errorf("Encode of a long script: %d bytes, %d; want error %d", len(b), e, api.ErrLen)
	}
}

func checkError(t *testing.T, b []byte, want api.Errno) {
	t.Helper()
	if s, e := code.Decode(b); !same(s, api.Script{}) || e != want {
		t.Errorf("Decode(% .60X): %v, %d; want error %d", b, s, e, want)
	}
}

// join returns the bytes of a script from those of its parts: the configuration is zero.
func join(parts ...string) []byte {
	b := []byte("STX1" + zeros(12) + "\x00")
	for _, p := range parts {
		b = append(b, p...)
	}
	return b
}

func zeros(n int) string {
	return string(make([]byte, n))
}

// full returns a script in which no two fields have the same value, and its bytes.
func full() (api.Script, []byte) {
	s := api.Script{
		Config: api.Config{Words: 1, Orecs: -2, Base: 3, Count: [api.Classes]int{4, -5, 6, 7}, Reads: 8, Writes: -9, Allocs: 10, Frees: 11, Clock: 300, Strong: true},
		Init:   []uint64{12, 300, 13},
		Programs: [][]api.Instr{
			{{Op: 14, A: 15, B: -16, C: 17, Imm: -18}, {Op: -19, A: 20, B: 21, C: 22, Imm: 1000}},
			nil,
			{{Op: 23, A: 24, B: 25, C: 26, Imm: 27}},
		},
		Picks: []int{28, -1, 64, 29},
	}
	b := []byte{
		'S', 'T', 'X', '1',
		2, 3, 6, 8, 9, 12, 14, 16, 17, 20, 22, 0xD8, 4, 1,
		3, 12, 0xAC, 2, 13,
		3, 2, 28, 30, 31, 34, 35, 37, 40, 42, 44, 0xD0, 0x0F, 0, 1, 46, 48, 50, 52, 54,
		4, 56, 1, 0x80, 1, 58,
	}
	return s, b
}

// The example of the chapter.
func TestExample(t *testing.T) {
	checkBytes(t, api.Script{Init: []uint64{300}}, join("\x01\xAC\x02", "\x00", "\x00"))
	checkBytes(t, api.Script{Picks: []int{-1}}, join("\x00", "\x00", "\x01\x01"))
}

// P5.1: the order of the fields and lists.
func TestBytes(t *testing.T) {
	s, b := full()
	checkBytes(t, s, b)
	checkBytes(t, api.Script{}, join("\x00\x00\x00"))
	checkBytes(t, api.Script{Config: api.Config{Strong: true}}, []byte("STX1"+zeros(12)+"\x01\x00\x00\x00"))
	checkBytes(t, api.Script{Init: []uint64{}, Programs: [][]api.Instr{}, Picks: []int{}}, join("\x00\x00\x00"))
	checkBytes(t, api.Script{Programs: [][]api.Instr{{}, nil}}, join("\x00", "\x02\x00\x00", "\x00"))
	checkBytes(t, api.Script{Programs: [][]api.Instr{{{}, {Imm: -1}}}}, join("\x00", "\x01\x02"+zeros(5)+zeros(4)+"\x01", "\x00"))
}

// P5.1: each field of a configuration and of an instruction, alone.
func TestFields(t *testing.T) {
	var c api.Config
	for at, field := range []*int{&c.Words, &c.Orecs, &c.Base, &c.Count[0], &c.Count[1], &c.Count[2], &c.Count[3], &c.Reads, &c.Writes, &c.Allocs, &c.Frees, &c.Clock} {
		*field = -64
		checkBytes(t, api.Script{Config: c}, []byte("STX1"+zeros(at)+"\x7F"+zeros(11-at)+"\x00"+zeros(3)))
		*field = 0
	}
	var i api.Instr
	for at, field := range []*int{&i.Op, &i.A, &i.B, &i.C, &i.Imm} {
		*field = 64
		checkBytes(t, api.Script{Programs: [][]api.Instr{{i}}}, join("\x00", "\x01\x01"+zeros(at)+"\x80\x01"+zeros(4-at), "\x00"))
		*field = 0
	}
}

// P5.1: unsigned numbers, with the least and the greatest of each length.
func TestUnsigned(t *testing.T) {
	for _, c := range []struct {
		n    uint64
		want string
	}{
		{0, "\x00"}, {1, "\x01"}, {127, "\x7F"}, {128, "\x80\x01"}, {255, "\xFF\x01"}, {256, "\x80\x02"}, {300, "\xAC\x02"},
		{16383, "\xFF\x7F"}, {16384, "\x80\x80\x01"}, {1<<21 - 1, "\xFF\xFF\x7F"}, {1 << 21, "\x80\x80\x80\x01"},
		{1<<35 + 1, "\x81\x80\x80\x80\x80\x01"}, {1<<56 - 1, "\xFF\xFF\xFF\xFF\xFF\xFF\xFF\x7F"}, {1 << 56, "\x80\x80\x80\x80\x80\x80\x80\x80\x01"},
		{1<<63 - 1, "\xFF\xFF\xFF\xFF\xFF\xFF\xFF\xFF\x7F"}, {1 << 63, "\x80\x80\x80\x80\x80\x80\x80\x80\x80\x01"},
		{math.MaxUint64, "\xFF\xFF\xFF\xFF\xFF\xFF\xFF\xFF\xFF\x01"},
	} {
		checkBytes(t, api.Script{Init: []uint64{c.n, 5}}, join("\x02"+c.want+"\x05", "\x00", "\x00"))
	}
}

// P5.1: signed numbers.
func TestSigned(t *testing.T) {
	for _, c := range []struct {
		n    int
		want string
	}{
		{0, "\x00"}, {-1, "\x01"}, {1, "\x02"}, {-2, "\x03"}, {63, "\x7E"}, {-64, "\x7F"}, {64, "\x80\x01"}, {-65, "\x81\x01"},
		{8191, "\xFE\x7F"}, {-8192, "\xFF\x7F"}, {8192, "\x80\x80\x01"}, {-8193, "\x81\x80\x01"},
		{math.MaxInt, "\xFE\xFF\xFF\xFF\xFF\xFF\xFF\xFF\xFF\x01"}, {math.MinInt, "\xFF\xFF\xFF\xFF\xFF\xFF\xFF\xFF\xFF\x01"},
		{math.MinInt + 1, "\xFD\xFF\xFF\xFF\xFF\xFF\xFF\xFF\xFF\x01"},
	} {
		checkBytes(t, api.Script{Picks: []int{c.n, 5}}, join("\x00", "\x00", "\x02"+c.want+"\x0A"))
		checkBytes(t, api.Script{Config: api.Config{Words: c.n}}, []byte("STX1"+c.want+zeros(11)+"\x00"+zeros(3)))
		checkBytes(t, api.Script{Programs: [][]api.Instr{{{Imm: c.n}}}}, join("\x00", "\x01\x01"+zeros(4)+c.want, "\x00"))
	}
}

// P5.1: lengths of more than one byte, also of lists that are longer than api permits in a valid script.
func TestLengths(t *testing.T) {
	for _, c := range []struct {
		n    int
		want string
	}{{127, "\x7F"}, {128, "\x80\x01"}, {300, "\xAC\x02"}, {16384, "\x80\x80\x01"}} {
		checkBytes(t, api.Script{Init: make([]uint64, c.n)}, join(c.want+zeros(c.n), "\x00", "\x00"))
		checkBytes(t, api.Script{Picks: make([]int, c.n)}, join("\x00", "\x00", c.want+zeros(c.n)))
		checkBytes(t, api.Script{Programs: make([][]api.Instr, c.n)}, join("\x00", c.want+zeros(c.n), "\x00"))
		checkBytes(t, api.Script{Programs: [][]api.Instr{make([]api.Instr, c.n)}}, join("\x00", "\x01"+c.want+zeros(5*c.n), "\x00"))
	}
}

// P5.1: exactly MaxBytes bytes, and one more, whichever list has them.
func TestGreatest(t *testing.T) {
	const room = api.MaxBytes - 19 - 3 // without the configuration, the lengths of two lists and the three bytes of that of the third
	long := func(n int) []api.Script {
		return []api.Script{
			{Init: make([]uint64, n)},
			{Programs: make([][]api.Instr, n)},
			{Picks: make([]int, n)},
			{Init: append(make([]uint64, n-10), math.MaxUint64)},
			{Picks: append(make([]int, n-10), math.MinInt)},
			{Init: []uint64{1, 2}, Picks: make([]int, n-2)},
			{Programs: append(make([][]api.Instr, n-6), make([]api.Instr, 1))},
		}
	}
	for at, s := range long(room) {
		b := encode(t, s)
		if len(b) != api.MaxBytes {
			t.Errorf("script %d: %d bytes", at, len(b))
		}
		if d, e := code.Decode(b); !same(d, s) || e != api.OK {
			t.Errorf("script %d: error %d", at, e)
		}
	}
	for extra := range 11 {
		for _, s := range long(room + 1 + extra) {
			checkTooLong(t, s)
		}
	}
	// A program of 52421 instructions: 5 bytes each, four bytes of lengths and two more numbers.
	s := api.Script{Programs: [][]api.Instr{make([]api.Instr, 52421)}, Init: make([]uint64, 16)}
	if b := encode(t, s); len(b) != api.MaxBytes {
		t.Errorf("%d bytes", len(b))
	}
	s.Programs[0][52420].Imm = 64
	checkTooLong(t, s)
	checkTooLong(t, api.Script{Programs: [][]api.Instr{make([]api.Instr, 52425)}})
}

// P5.1, R1: Encode ends soon, also where the same list stands in many places.
func TestHuge(t *testing.T) {
	programs := make([][]api.Instr, 1<<16)
	shared := make([]api.Instr, 1<<16)
	for at := range programs {
		programs[at] = shared
	}
	checkTooLong(t, api.Script{Programs: programs})
	checkTooLong(t, api.Script{Programs: programs, Init: make([]uint64, 1<<20), Picks: make([]int, 1<<20)})
	checkTooLong(t, api.Script{Programs: make([][]api.Instr, 1<<20)})
}

// P5.1: the first error of Decode counts the bytes, whatever they are.
func TestDecodeLength(t *testing.T) {
	good := encode(t, api.Script{Picks: make([]int, api.MaxBytes-22)})
	checkError(t, append(good, 0), api.ErrLen)
	checkError(t, make([]byte, api.MaxBytes+1), api.ErrLen)
	checkError(t, make([]byte, 2*api.MaxBytes), api.ErrLen)
	checkError(t, make([]byte, api.MaxBytes), api.ErrBytes)
	// One more pick, which Encode refuses.
	tooLong := join("\x00", "\x00", "\xEB\xFF\x0F"+zeros(api.MaxBytes-21))
	checkError(t, tooLong, api.ErrLen)
	checkError(t, tooLong[:api.MaxBytes], api.ErrBytes)
}

// P5.1: bytes that end too soon, or too late, or begin otherwise.
func TestDecodeEnds(t *testing.T) {
	_, b := full()
	for n := range b {
		checkError(t, b[:n], api.ErrBytes)
		checkError(t, b[n+1:], api.ErrBytes)
	}
	for _, more := range []string{"\x00", "\x01", "\x80", "STX1", string(b)} {
		checkError(t, append(slices.Clone(b), more...), api.ErrBytes)
	}
	for _, mark := range []string{"STX0", "STX2", "stx1", "STXI", "TSX1", "STX\x01", "\x00TX1"} {
		checkError(t, append([]byte(mark), b[4:]...), api.ErrBytes)
	}
	checkError(t, nil, api.ErrBytes)
	checkError(t, []byte{}, api.ErrBytes)
}

// P5.1: Strong is 0 or 1.
func TestDecodeStrong(t *testing.T) {
	for strong := 2; strong < 256; strong++ {
		b := join("\x00\x00\x00")
		b[16] = byte(strong)
		checkError(t, b, api.ErrBytes)
	}
	checkError(t, []byte("STX1"+zeros(12)+"\x80\x00"+zeros(3)), api.ErrBytes)
	checkError(t, []byte("STX1"+zeros(12)+"\x81\x00"+zeros(3)), api.ErrBytes)
}

// badNumbers are not as short as possible, do not end, or have more than 64 bits.
func badNumbers() []string {
	nine := "\x80\x80\x80\x80\x80\x80\x80\x80\x80"
	return []string{
		"\x80\x00", "\x81\x00", "\xFF\x00", "\xAC\x82\x00", "\x80\x80\x00", "\xFF\xFF\xFF\xFF\x00", nine + "\x00", "\xFF" + nine[1:] + "\x00",
		nine + "\x02", nine + "\x03", nine + "\x04", nine + "\x40", nine + "\x7F", "\xFF\xFF\xFF\xFF\xFF\xFF\xFF\xFF\xFF\x02", "\xFF\xFF\xFF\xFF\xFF\xFF\xFF\xFF\xFF\x03",
		nine + "\x80\x00", nine + "\x80\x01", nine + "\x80\x02", nine + "\x81\x00", nine + "\x81\x01", nine + nine + "\x00", nine + nine + "\x01", nine + nine + nine + "\x7F",
		"\xFF\xFF\xFF\xFF\xFF\xFF\xFF\xFF\xFF\x81\x00", "\x80", nine, nine + "\x80",
	}
}

// P5.1: numbers that Encode does not write, at each place.
func TestDecodeNumbers(t *testing.T) {
	for _, bad := range badNumbers() {
		for at := range 12 {
			checkError(t, []byte("STX1"+zeros(at)+bad+zeros(11-at)+"\x00"+zeros(3)), api.ErrBytes)
		}
		checkError(t, join(bad, "\x00", "\x00"), api.ErrBytes)
		checkError(t, join("\x00", bad, "\x00"), api.ErrBytes)
		checkError(t, join("\x00", "\x00", bad), api.ErrBytes)
		checkError(t, join("\x01"+bad, "\x00", "\x00"), api.ErrBytes)
		checkError(t, join("\x00", "\x01"+bad, "\x00"), api.ErrBytes)
		checkError(t, join("\x00", "\x00", "\x01"+bad), api.ErrBytes)
		for at := range 5 {
			checkError(t, join("\x00", "\x01\x01"+zeros(at)+bad+zeros(4-at), "\x00"), api.ErrBytes)
		}
	}
}

// P5.1, R1: lengths that the rest does not have, also those that no memory has.
func TestDecodeLists(t *testing.T) {
	for _, n := range []string{"\x04", "\x7F", "\x80\x01", "\xFF\xFF\x0F", "\xFF\xFF\xFF\xFF\x07", "\xFF\xFF\xFF\xFF\xFF\xFF\xFF\xFF\x7F", "\x80\x80\x80\x80\x80\x80\x80\x80\x80\x01", "\xFF\xFF\xFF\xFF\xFF\xFF\xFF\xFF\xFF\x01"} {
		checkError(t, join(n, "\x00", "\x00"), api.ErrBytes)
		checkError(t, join("\x00", n, "\x00"), api.ErrBytes)
		checkError(t, join("\x00", "\x00", n), api.ErrBytes)
		checkError(t, join("\x00", "\x01"+n, "\x00"), api.ErrBytes)
		checkError(t, join("\x00", "\x00", n+"\x01\x02\x03"), api.ErrBytes)
		checkError(t, join("\x00", "\x01"+n+zeros(15), "\x00"), api.ErrBytes)
	}
	checkError(t, join("\x00", "\x01\x01"+zeros(3), "\x00"), api.ErrBytes)
	checkError(t, join("\x01\x00", "\x00"), api.ErrBytes)
}

// canonical tells whether bytes are refused or are those that Encode returns for what Decode returns.
func canonical(b []byte) bool {
	s, e := code.Decode(b)
	if e != api.OK {
		return e == api.ErrBytes && same(s, api.Script{})
	}
	again, e := code.Encode(s)
	return e == api.OK && bytes.Equal(again, b)
}

// P5.1, P5.2: what Decode accepts, Encode returns: all changes of one byte, and random ones.
func TestChanged(t *testing.T) {
	_, b := full()
	for at := range b {
		for value := range 256 {
			changed := slices.Clone(b)
			changed[at] = byte(value)
			if !canonical(changed) {
				t.Fatalf("% X", changed)
			}
		}
	}
	random := rand.New(rand.NewSource(5))
	accepted := 0
	for range 100000 {
		changed := join("\x00\x00\x00")
		for range random.Intn(12) {
			at := 4 + random.Intn(len(changed)-3)
			changed = slices.Insert(changed, at, byte(random.Intn(4)*random.Intn(86)))
		}
		if !canonical(changed) {
			t.Fatalf("% X", changed)
		}
		if _, e := code.Decode(changed); e == api.OK {
			accepted++
		}
	}
	if accepted < 1000 {
		t.Errorf("only %d were accepted", accepted)
	}
}

func randomWord(random *rand.Rand) uint64 {
	n := random.Uint64() >> random.Intn(64)
	if random.Intn(4) == 0 {
		return -n
	}
	return n
}

func randomInt(random *rand.Rand) int {
	return int(randomWord(random))
}

func randomScript(random *rand.Rand) api.Script {
	var s api.Script
	c := &s.Config
	for _, field := range []*int{&c.Words, &c.Orecs, &c.Base, &c.Count[0], &c.Count[1], &c.Count[2], &c.Count[3], &c.Reads, &c.Writes, &c.Allocs, &c.Frees, &c.Clock} {
		*field = randomInt(random)
	}
	c.Strong = random.Intn(2) == 0
	for range random.Intn(4) {
		s.Init = append(s.Init, randomWord(random))
	}
	for range random.Intn(4) {
		var p []api.Instr
		for range random.Intn(4) {
			p = append(p, api.Instr{Op: randomInt(random), A: randomInt(random), B: randomInt(random), C: randomInt(random), Imm: randomInt(random)})
		}
		s.Programs = append(s.Programs, p)
	}
	for range random.Intn(4) {
		s.Picks = append(s.Picks, randomInt(random))
	}
	return s
}

// P5.2: Decode of Encode, for scripts that need not be valid.
func TestRound(t *testing.T) {
	random := rand.New(rand.NewSource(52))
	for range 20000 {
		s := randomScript(random)
		if d, e := code.Decode(encode(t, s)); !same(d, s) || e != api.OK {
			t.Fatalf("%v: %v, %d", s, d, e)
		}
	}
}

// P5.2: scripts that differ by little have other bytes.
func TestDistinct(t *testing.T) {
	i := api.Instr{Op: 1}
	scripts := []api.Script{
		{}, {Init: []uint64{0}}, {Init: []uint64{1}}, {Init: []uint64{0, 0}}, {Picks: []int{0}}, {Picks: []int{1}}, {Picks: []int{0, 0}},
		{Programs: [][]api.Instr{nil}}, {Programs: [][]api.Instr{nil, nil}}, {Programs: [][]api.Instr{{i}}}, {Programs: [][]api.Instr{{i}, nil}}, {Programs: [][]api.Instr{nil, {i}}},
		{Programs: [][]api.Instr{{i, i}}}, {Programs: [][]api.Instr{{i}, {i}}}, {Programs: [][]api.Instr{{i, i}, nil}}, {Programs: [][]api.Instr{{i, {}}}}, {Programs: [][]api.Instr{{{}, i}}},
		{Config: api.Config{Strong: true}}, {Config: api.Config{Clock: 1}}, {Config: api.Config{Frees: 1}}, {Config: api.Config{Clock: -1}},
	}
	for a, s := range scripts {
		for b, other := range scripts {
			if bytes.Equal(encode(t, s), encode(t, other)) != (a == b) {
				t.Errorf("scripts %d and %d", a, b)
			}
		}
	}
}

// R4: arguments are neither changed nor kept, and no two lists of a result share memory.
func TestMemory(t *testing.T) {
	s, want := full()
	b := encode(t, s)
	if again, _ := full(); !same(s, again) {
		t.Error("Encode changes its argument")
	}
	s.Init[0], s.Programs[0][0].A, s.Picks[0] = 99, 99, 99
	if !bytes.Equal(b, want) {
		t.Error("Encode keeps its argument")
	}
	d, _ := code.Decode(b)
	if !bytes.Equal(b, want) {
		t.Error("Decode changes its argument")
	}
	clear(b)
	s, _ = full()
	if !same(d, s) {
		t.Error("Decode keeps its argument")
	}
	_ = append(d.Programs[0], api.Instr{Op: 77})
	_ = append(d.Programs[1], api.Instr{Op: 77})
	d.Programs[2][0].Op = 77
	d.Programs[2][0].Op = s.Programs[2][0].Op
	if !same(d, s) {
		t.Error("two lists share memory")
	}
	first, second := encode(t, s), encode(t, s)
	clear(first)
	if !bytes.Equal(second, want) {
		t.Error("two results share memory")
	}
}
