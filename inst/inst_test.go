package inst_test

import (
	"math"
	"math/rand"
	"strings"
	"testing"

	"chrysalis/api"
	"chrysalis/inst"
)

// names are the constants in the order of their numbers, as the chapter lists them.
var names = strings.Split("Tick; Nil; Const; Move; Box; Get; Set; Up; Upset; Add; Sub; Mul; Div; Rem; Cat; Eq; Ne; Lt; Le; Neg; Not; Len; Table; Index; Store; Jump; False; True; Fn; Call; Own; Use; Spawn; State; Put; Emit; Yield; Return", "; ")

var ops = []int{
	inst.Tick, inst.Nil, inst.Const, inst.Move, inst.Box, inst.Get, inst.Set, inst.Up, inst.Upset, inst.Add,
	inst.Sub, inst.Mul, inst.Div, inst.Rem, inst.Cat, inst.Eq, inst.Ne, inst.Lt, inst.Le, inst.Neg,
	inst.Not, inst.Len, inst.Table, inst.Index, inst.Store, inst.Jump, inst.False, inst.True, inst.Fn, inst.Call,
	inst.Own, inst.Use, inst.Spawn, inst.State, inst.Put, inst.Emit, inst.Yield, inst.Return,
}

// formats is the chapter's table.
var formats = map[string]string{
	"Tick, Yield": "n--",
	"Nil, Box, Table, State, Put, Emit, Return": "r--",
	"Const, False, True, Fn":                    "rw",
	"Jump":                                      "-w",
	"Up":                                        "ru-",
	"Add, Sub, Mul, Div, Rem, Cat, Eq, Ne, Lt, Le": "rrr",
	"Neg, Not, Len, Move, Get, Set, Spawn":         "rr-",
	"Index, Store":                                 "rrr",
	"Call, Own, Use":                               "rrn",
	"Upset":                                        "ur-",
}

var otherOps = []int{
	math.MinInt, math.MinInt + 1, -1 << 32, -256, -219, -38, -37, -1,
	38, 39, 64, 127, 128, 255, 256, 257, 256 + 37, 1 << 16, 1 << 32, 1<<32 + 1, math.MaxInt - 1, math.MaxInt,
}

var edges = []int{0, 1, 127, 128, 255}

var others = []int{math.MinInt, math.MinInt + 255, -1 << 32, -256, -255, -2, -1, 256, 257, 511, 512, 1 << 16, 1 << 32, math.MaxInt}

// shapes are the formats in the order of the ops.
var shapes = inOrder()

func inOrder() []string {
	group := map[string]string{}
	for list, format := range formats {
		for _, name := range strings.Split(list, ", ") {
			group[name] = format
		}
	}
	var l []string
	for _, name := range names {
		l = append(l, group[name])
	}
	return l
}

// valid repeats the chapter's definition of a valid instruction, with the formats written out for all three numbers.
func valid(x api.Inst) bool {
	if x.Op < 0 || x.Op >= len(names) {
		return false
	}
	within := func(n int, letter byte) bool {
		if letter == '-' {
			return n == 0
		}
		return n >= 0 && n <= 255
	}
	letters := shapes[x.Op]
	if letters[1] == 'w' {
		letters += "w"
	}
	return within(x.A, letters[0]) && within(x.B, letters[1]) && within(x.C, letters[2])
}

// check checks what the functions return for an instruction.
func check(t *testing.T, x api.Inst) {
	if valid(x) {
		checkValid(t, x)
	} else {
		checkInvalid(t, x)
	}
}

func checkValid(t *testing.T, x api.Inst) {
	if !inst.Right(x) {
		t.Errorf("Right(%v) = false", x)
	}
	if got, want := inst.Wide(x), x.C<<8|x.B; got != want {
		t.Errorf("Wide(%v) = %d; want %d", x, got, want)
	}
	want := string([]byte{byte(x.Op), byte(x.A), byte(x.B), byte(x.C)})
	if got, err := inst.Build(x); got != want || err != api.OK {
		t.Errorf("Build(%v) = %q, %d; want %q", x, got, err, want)
	}
	if got, err := inst.Parse(want, 0); got != x || err != api.OK {
		t.Errorf("Parse(%q, 0) = %v, %d; want %v", want, got, err, x)
	}
}

func checkInvalid(t *testing.T, x api.Inst) {
	if inst.Right(x) {
		t.Errorf("Right(%v) = true", x)
	}
	if got := inst.Wide(x); got != 0 {
		t.Errorf("Wide(%v) = %d; want 0", x, got)
	}
	if got, err := inst.Build(x); got != "" || err != api.ErrForm {
		t.Errorf("Build(%v) = %q, %d; want ErrForm", x, got, err)
	}
}

func checkError(t *testing.T, s string, at int, want api.Errno) {
	if got, err := inst.Parse(s, at); got != (api.Inst{}) || err != want {
		t.Errorf("Parse(%q, %d) = %v, %d; want error %d", s, at, got, err, want)
	}
}

// P13.1

func TestOpsAreNumberedInOrder(t *testing.T) {
	if len(ops) != 38 || len(names) != 38 {
		t.Fatalf("%d ops, %d names; want 38", len(ops), len(names))
	}
	for i, op := range ops {
		if op != i {
			t.Errorf("%s = %d; want %d", names[i], op, i)
		}
	}
}

func TestShapeAndNameOfEachOp(t *testing.T) {
	for op := range names {
		if got, want := inst.Shape(op), shapes[op]; got != want || want == "" {
			t.Errorf("Shape(%s) = %q; want %q", names[op], got, want)
		}
		if got, want := inst.Name(op), strings.ToLower(names[op]); got != want {
			t.Errorf("Name(%s) = %q; want %q", names[op], got, want)
		}
	}
	if got := inst.Name(37); got != "return" {
		t.Errorf("Name(37) = %q", got)
	}
}

func TestShapeAndNameOfOthersAreEmpty(t *testing.T) {
	for _, op := range otherOps {
		if got := inst.Shape(op); got != "" {
			t.Errorf("Shape(%d) = %q", op, got)
		}
		if got := inst.Name(op); got != "" {
			t.Errorf("Name(%d) = %q", op, got)
		}
	}
}

func TestRightOfOneInstructionOfEachFormat(t *testing.T) {
	for _, c := range []struct {
		x    api.Inst
		want bool
	}{
		{api.Inst{}, true},
		{api.Inst{Op: inst.Tick, A: 255}, true},
		{api.Inst{Op: inst.Tick, A: 5, B: 1}, false},
		{api.Inst{Op: inst.Tick, A: 5, C: 1}, false},
		{api.Inst{Op: inst.Yield, C: 1}, false},
		{api.Inst{Op: inst.Nil, A: 1}, true},
		{api.Inst{Op: inst.Nil, A: 1, B: 2}, false},
		{api.Inst{Op: inst.Return, A: 255}, true},
		{api.Inst{Op: inst.Return, A: 256}, false},
		{api.Inst{Op: inst.Move, A: 1, B: 255}, true},
		{api.Inst{Op: inst.Move, A: 1, B: 2, C: 3}, false},
		{api.Inst{Op: inst.Upset, A: 1, B: 2}, true},
		{api.Inst{Op: inst.Upset, A: 1, B: 2, C: 255}, false},
		{api.Inst{Op: inst.Up, A: 1, B: 255}, true},
		{api.Inst{Op: inst.Up, A: 1, B: 2, C: 1}, false},
		{api.Inst{Op: inst.Add, A: 255, B: 255, C: 255}, true},
		{api.Inst{Op: inst.Store, A: 1, B: 2, C: 256}, false},
		{api.Inst{Op: inst.Const, A: 255, B: 255, C: 255}, true},
		{api.Inst{Op: inst.Const, A: 1, B: 300}, false},
		{api.Inst{Op: inst.Jump, B: 255, C: 255}, true},
		{api.Inst{Op: inst.Jump, A: 1}, false},
		{api.Inst{Op: inst.Call, A: 255, B: 255, C: 255}, true},
		{api.Inst{Op: inst.Use, A: -1}, false},
		{api.Inst{Op: 38}, false},
		{api.Inst{Op: -1}, false},
		{api.Inst{Op: 256}, false},
	} {
		if got := inst.Right(c.x); got != c.want || valid(c.x) != c.want {
			t.Errorf("Right(%v) = %v; want %v", c.x, got, c.want)
		}
	}
}

func TestEachOpWithEachNumber(t *testing.T) {
	numbers := append(append([]int{}, edges...), others...)
	all := append(append([]int{}, ops...), otherOps...)
	for _, op := range all {
		for _, a := range numbers {
			for _, b := range numbers {
				for _, c := range numbers {
					check(t, api.Inst{Op: op, A: a, B: b, C: c})
				}
			}
		}
	}
}

// P13.2

func TestExample(t *testing.T) {
	x := api.Inst{Op: inst.Const, A: 1, B: 44, C: 1}
	if got, err := inst.Build(x); got != "\x02\x01\x2c\x01" || err != api.OK {
		t.Errorf("Build(%v) = %q, %d", x, got, err)
	}
	if got := inst.Wide(x); got != 300 {
		t.Errorf("Wide(%v) = %d; want 300", x, got)
	}
	checkInvalid(t, api.Inst{Op: inst.Nil, A: 1, B: 2})
}

func TestWide(t *testing.T) {
	for _, c := range []struct {
		x    api.Inst
		want int
	}{
		{api.Inst{Op: inst.Jump}, 0},
		{api.Inst{Op: inst.Jump, B: 255}, 255},
		{api.Inst{Op: inst.Jump, C: 1}, 256},
		{api.Inst{Op: inst.Jump, B: 255, C: 255}, 65535},
		{api.Inst{Op: inst.Jump, A: 1, B: 255, C: 255}, 0},
		{api.Inst{Op: inst.Fn, A: 255, B: 1, C: 2}, 513},
		// A format without w has this number, too.
		{api.Inst{Op: inst.Add, A: 1, B: 2, C: 3}, 770},
		{api.Inst{Op: inst.Call, A: 1, B: 2, C: 3}, 770},
		{api.Inst{Op: inst.Move, A: 1, B: 2}, 2},
		{api.Inst{Op: inst.Move, A: 1, B: 2, C: 3}, 0},
		{api.Inst{Op: inst.Return, A: 9}, 0},
		{api.Inst{Op: inst.Const, A: 1, B: 256, C: 1}, 0},
		{api.Inst{Op: 38, B: 1, C: 1}, 0},
	} {
		if got := inst.Wide(c.x); got != c.want {
			t.Errorf("Wide(%v) = %d; want %d", c.x, got, c.want)
		}
	}
}

func TestParseAtEachOffset(t *testing.T) {
	s := "\x02\x01\x2c\x01" + "\x19\x00\x05\x00" + "\x25\xff\x00\x00" + "\x00"
	for _, c := range []struct {
		at   int
		want api.Inst
		err  api.Errno
	}{
		{0, api.Inst{Op: inst.Const, A: 1, B: 44, C: 1}, api.OK},
		// An offset needn't be a multiple of 4.
		{1, api.Inst{}, api.ErrForm},
		{2, api.Inst{}, api.ErrForm},
		{3, api.Inst{}, api.ErrForm},
		{4, api.Inst{Op: inst.Jump, B: 5}, api.OK},
		{5, api.Inst{}, api.ErrForm},
		{6, api.Inst{}, api.ErrForm},
		{8, api.Inst{Op: inst.Return, A: 255}, api.OK},
		{9, api.Inst{}, api.ErrForm},
		{10, api.Inst{}, api.ErrShort},
		{13, api.Inst{}, api.ErrShort},
	} {
		if c.err != api.OK {
			checkError(t, s, c.at, c.err)
		} else if got, err := inst.Parse(s, c.at); got != c.want || err != api.OK {
			t.Errorf("Parse(%q, %d) = %v, %d; want %v", s, c.at, got, err, c.want)
		}
	}
	if got, err := inst.Parse("xyz\x1d\x01\x02\x03\xff", 3); got != (api.Inst{Op: inst.Call, A: 1, B: 2, C: 3}) || err != api.OK {
		t.Errorf("Parse at 3 = %v, %d", got, err)
	}
}

func TestParseRefusesOffsetsBelowZero(t *testing.T) {
	for _, at := range []int{math.MinInt, math.MinInt + 4, -1 << 32, -5, -4, -1} {
		for _, s := range []string{"", "\x00", "\x00\x00\x00\x00", "\xff\xff\xff\xff", "\x00\x00\x00\x00\x00\x00\x00\x00"} {
			checkError(t, s, at, api.ErrArg)
		}
	}
}

func TestParseRefusesShortTexts(t *testing.T) {
	// Whether the bytes that are there could begin an instruction doesn't matter.
	for _, s := range []string{"\x00\x00\x00\x00\x00", "\xff\xff\xff\xff\xff", "\x01\x02\x03\x04\x05"} {
		for n := range 4 {
			checkError(t, s[:n], 0, api.ErrShort)
			checkError(t, strings.Repeat("\x00", 8)+s[:n], 8, api.ErrShort)
		}
		for _, at := range []int{2, 3, 4, 5, 6, 7, 8, 9, 1 << 31, 1 << 32, math.MaxInt - 4, math.MaxInt - 3, math.MaxInt} {
			checkError(t, s, at, api.ErrShort)
			checkError(t, "", at, api.ErrShort)
		}
	}
}

func TestParseRefusesWhatIsNoInstruction(t *testing.T) {
	for _, s := range []string{
		"\x26\x00\x00\x00", "\xff\x00\x00\x00", "\x80\x00\x00\x00",
		"\x00\x00\x01\x00", "\x00\x00\x00\x01", "\x01\x01\x02\x00",
		"\x19\x01\x00\x00", "\x07\x01\x02\x03", "\x08\x01\x02\xff",
	} {
		checkError(t, s, 0, api.ErrForm)
		checkError(t, "\x00\x00\x00\x00"+s+"\x00\x00\x00\x00", 4, api.ErrForm)
	}
}

// P13.3

func TestParseOfEachOpBuildsBack(t *testing.T) {
	for op := range 256 {
		for _, a := range edges {
			for _, b := range edges {
				for n := range 256 {
					checkBytes(t, op, n, a, b)
					checkBytes(t, op, a, n, b)
					checkBytes(t, op, a, b, n)
				}
			}
		}
	}
}

func TestParseOfRandomTexts(t *testing.T) {
	r := rand.New(rand.NewSource(13))
	for range 200000 {
		s := make([]byte, r.Intn(12))
		for i := range s {
			s[i] = byte(r.Intn(256) >> (r.Intn(2) * 3) * r.Intn(2))
		}
		at := r.Intn(len(s)+3) - 1
		checkText(t, string(s), at)
	}
}

// checkBytes checks what Parse returns for four bytes.
func checkBytes(t *testing.T, op, a, b, c int) {
	checkText(t, string([]byte{byte(op), byte(a), byte(b), byte(c)}), 0)
}

// checkText compares Parse with the chapter's list of errors, and with Build.
func checkText(t *testing.T, s string, at int) {
	want := api.OK
	var x api.Inst
	switch {
	case at < 0:
		want = api.ErrArg
	case at+4 > len(s):
		want = api.ErrShort
	default:
		x = api.Inst{Op: int(s[at]), A: int(s[at+1]), B: int(s[at+2]), C: int(s[at+3])}
		if !valid(x) {
			want = api.ErrForm
		}
	}
	if want != api.OK {
		checkError(t, s, at, want)
		return
	}
	got, err := inst.Parse(s, at)
	if got != x || err != api.OK {
		t.Errorf("Parse(%q, %d) = %v, %d; want %v", s, at, got, err, x)
	}
	if back, err := inst.Build(got); back != s[at:at+4] || err != api.OK {
		t.Errorf("Build(%v) = %q, %d; want %q", got, back, err, s[at:at+4])
	}
}
