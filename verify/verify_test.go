package verify_test

import (
	"math"
	"math/rand"
	"reflect"
	"slices"
	"strconv"
	"testing"

	"chrysalis/api"
	"chrysalis/image"
	"chrysalis/inst"
	"chrysalis/verify"
)

// The model: the chapter's rules 2 to 7 once more, each as a list of the numbers that must be below others.

// pair is a number with the one that it must be below.
type pair struct{ number, limit int }

func wide(x api.Inst) int { return x.C<<8 | x.B }

func modelRegisters(p api.Proto, x api.Inst) (l []pair) {
	shape := inst.Shape(x.Op)
	for i, n := range []int{x.A, x.B, x.C} {
		if i < len(shape) && shape[i] == 'r' {
			l = append(l, pair{n, p.Regs})
		}
	}
	return l
}

func modelFn(u api.Unit, p api.Proto, n int) []pair {
	l := []pair{{n, len(u.Protos)}, {u.Funs, n + 1}}
	if n >= len(u.Protos) {
		return l
	}
	for _, c := range u.Protos[n].Caps {
		if c.Up {
			l = append(l, pair{c.Index, len(p.Caps)})
		} else {
			l = append(l, pair{c.Index, p.Regs})
		}
	}
	return l
}

func modelJump(p api.Proto, at, n int) []pair {
	l := []pair{{n, len(p.Code)}}
	if n <= at && p.Code[n].Op != inst.Tick {
		l = append(l, pair{at, n})
	}
	return l
}

func modelCall(u api.Unit, p api.Proto, x api.Inst) []pair {
	params := []int{}
	if x.Op == inst.Own {
		for _, fun := range u.Protos[:u.Funs] {
			params = append(params, fun.Params)
		}
	} else {
		for _, use := range u.Uses {
			params = append(params, use.Params)
		}
	}
	l := []pair{{x.C, len(params)}}
	if x.C < len(params) {
		l = append(l, pair{x.B + params[x.C], p.Regs + 1})
	}
	return l
}

// modelRules returns for each rule from 2 to 7, under its number, what it demands of an instruction.
func modelRules(u api.Unit, p api.Proto, at int) (rules [8][]pair) {
	x := p.Code[at]
	rules[2] = modelRegisters(p, x)
	switch inst.Name(x.Op) {
	case "tick", "yield":
		rules[3] = []pair{{x.A, p.Regs + 1}}
	case "const":
		rules[4] = []pair{{wide(x), len(p.Consts)}}
	case "up":
		rules[4] = []pair{{x.B, len(p.Caps)}}
	case "upset":
		rules[4] = []pair{{x.A, len(p.Caps)}}
	case "jump", "false", "true":
		rules[5] = modelJump(p, at, wide(x))
	case "fn":
		rules[6] = modelFn(u, p, wide(x))
	case "call":
		rules[7] = []pair{{x.B + x.C, p.Regs}}
	case "own", "use":
		rules[7] = modelCall(u, p, x)
	}
	return rules
}

// broken returns the number of the first rule that an instruction violates, or 0.
func broken(u api.Unit, p api.Proto, at int) int {
	for rule, demands := range modelRules(u, p, at) {
		for _, d := range demands {
			if d.number >= d.limit {
				return rule
			}
		}
	}
	return 0
}

// result is what Check returns.
type result struct {
	err       api.Errno
	proto, at int
}

func (r result) String() string {
	return "(" + strconv.Itoa(int(r.err)) + ", " + strconv.Itoa(r.proto) + ", " + strconv.Itoa(r.at) + ")"
}

func model(u api.Unit) result {
	if !image.Right(u) {
		return result{err: api.ErrForm}
	}
	for i, p := range u.Protos {
		last := len(p.Code) - 1
		if last < 0 {
			return result{api.ErrVerify, i, 0}
		}
		if op := p.Code[last].Op; op != inst.Return && op != inst.Jump {
			return result{api.ErrVerify, i, last}
		}
		for at := range p.Code {
			if broken(u, p, at) != 0 {
				return result{api.ErrVerify, i, at}
			}
		}
	}
	return result{}
}

func check(u api.Unit) result {
	err, proto, at := verify.Check(u)
	return result{err, proto, at}
}

// expect also compares the model with what a test expects.
func expect(t *testing.T, name string, u api.Unit, want result) {
	t.Helper()
	if got := check(u); got != want {
		t.Errorf("%s: Check = %v; want %v", name, got, want)
	}
	if got := model(u); got != want {
		t.Errorf("%s: the model says %v; want %v", name, got, want)
	}
}

// shortest is the code of a function that returns nil.
func shortest() []api.Inst {
	return []api.Inst{{Op: inst.Nil}, {Op: inst.Return}}
}

func single(regs int, code ...api.Inst) api.Unit {
	return api.Unit{Name: "m", Version: 1, Funs: 1, Protos: []api.Proto{{Name: "f", Regs: regs, Code: code}}}
}

// The protos of sample in which the tests place instructions.
const (
	outer = 1
	inner = 3
)

// placed is the number of the instruction that the tests place in them.
const placed = 2

// sample has functions and uses with several Params, and protos with several Caps.
func sample() api.Unit {
	code := func() []api.Inst {
		return []api.Inst{{Op: inst.Tick}, {Op: inst.Nil}, {Op: inst.Nil}, {Op: inst.Tick}, {Op: inst.Nil}, {Op: inst.Return}}
	}
	return api.Unit{
		Name: "m", Version: 1,
		Uses: []api.Use{{Module: "a", Name: "f"}, {Module: "b", Name: "g", Params: 3}, {Module: "b", Name: "h", Params: 8}},
		Funs: 3,
		Protos: []api.Proto{
			{Name: "f", Regs: 1, Code: shortest()},
			{Name: "g", Params: 2, Regs: 6, Code: code()},
			{Name: "h", Params: 8, Regs: 8, Code: shortest()},
			{Params: 1, Regs: 5, Consts: []api.Value{{}, {Kind: api.KInt, N: 7}}, Code: code(),
				Caps: []api.Cap{{Index: 0}, {Index: 4}, {Up: true, Index: 2}}},
			{Regs: 1, Code: shortest()},
			{Regs: 1, Code: shortest(), Caps: []api.Cap{{Index: 5}}},
			{Regs: 1, Code: shortest(), Caps: []api.Cap{{Up: true, Index: 3}}},
			{Regs: 1, Code: shortest(), Caps: []api.Cap{{Index: 0}, {Up: true, Index: 0}, {Index: 5}, {Index: 1}}},
			{Regs: 1, Code: shortest(), Caps: []api.Cap{{Index: 2}, {Index: 1}}},
		},
	}
}

func with(u api.Unit, proto int, x api.Inst) api.Unit {
	u.Protos[proto].Code[placed] = x
	return u
}

func describe(x api.Inst) string {
	return inst.Name(x.Op) + " " + strconv.Itoa(x.A) + " " + strconv.Itoa(x.B) + " " + strconv.Itoa(x.C)
}

// trial is an instruction with the number of the rule that it violates, or 0.
type trial struct {
	x    api.Inst
	rule int
}

func place(t *testing.T, proto int, trials []trial) {
	t.Helper()
	for _, c := range trials {
		u := with(sample(), proto, c.x)
		want := result{}
		if c.rule != 0 {
			want = result{api.ErrVerify, proto, placed}
		}
		expect(t, describe(c.x), u, want)
		if got := broken(u, u.Protos[proto], placed); got != c.rule {
			t.Errorf("%s: the model says rule %d; want %d", describe(c.x), got, c.rule)
		}
	}
}

// P15.1

func TestExamples(t *testing.T) {
	expect(t, "nil, return", single(1, shortest()...), result{})
	expect(t, "nil", single(1, api.Inst{Op: inst.Nil}), result{api.ErrVerify, 0, 0})
	expect(t, "jump 0", single(1, api.Inst{Op: inst.Jump}), result{api.ErrVerify, 0, 0})
}

func TestUnitsWithoutCode(t *testing.T) {
	expect(t, "no protos", api.Unit{Name: "m", Version: 1}, result{})
	expect(t, "uses alone", api.Unit{Name: "m", Version: 1, Uses: []api.Use{{Module: "a", Name: "f"}}}, result{})
	expect(t, "no code", single(1), result{api.ErrVerify, 0, 0})
	expect(t, "empty code", single(1, []api.Inst{}...), result{api.ErrVerify, 0, 0})
	u := sample()
	u.Protos[inner].Code = nil
	expect(t, "no code of a later proto", u, result{api.ErrVerify, inner, 0})
}

func TestSample(t *testing.T) {
	expect(t, "sample", sample(), result{})
}

func TestInvalidUnits(t *testing.T) {
	expect(t, "the zero unit", api.Unit{}, result{err: api.ErrForm})
	for name, do := range map[string]func(u *api.Unit){
		"no name":                  func(u *api.Unit) { u.Name = "" },
		"a keyword":                func(u *api.Unit) { u.Name = "fn" },
		"version 0":                func(u *api.Unit) { u.Version = 0 },
		"version 2^31":             func(u *api.Unit) { u.Version = 1 << 31 },
		"a use's name":             func(u *api.Unit) { u.Uses[2].Name = "" },
		"a use's params":           func(u *api.Unit) { u.Uses[0].Params = -1 },
		"17 uses":                  func(u *api.Unit) { u.Uses = slices.Repeat(u.Uses[:1], 17) },
		"funs below 0":             func(u *api.Unit) { u.Funs = -1 },
		"funs above the protos":    func(u *api.Unit) { u.Funs = 10 },
		"too few funs":             func(u *api.Unit) { u.Funs = 2 },
		"too many funs":            func(u *api.Unit) { u.Funs = 4 },
		"the least funs":           func(u *api.Unit) { u.Funs = math.MinInt },
		"65 protos":                func(u *api.Unit) { u.Protos = append(u.Protos, slices.Repeat(u.Protos[8:], 56)...) },
		"a function's caps":        func(u *api.Unit) { u.Protos[0].Caps = make([]api.Cap, 1) },
		"an index below 0":         func(u *api.Unit) { u.Protos[5].Caps[0].Index = -1 },
		"an index of 256":          func(u *api.Unit) { u.Protos[5].Caps[0].Index = 256 },
		"params below 0":           func(u *api.Unit) { u.Protos[0].Params = -1 },
		"9 params":                 func(u *api.Unit) { u.Protos[2].Params = 9 },
		"no registers":             func(u *api.Unit) { u.Protos[0].Regs = 0 },
		"registers below params":   func(u *api.Unit) { u.Protos[2].Regs = 7 },
		"101 registers":            func(u *api.Unit) { u.Protos[8].Regs = 101 },
		"the greatest registers":   func(u *api.Unit) { u.Protos[8].Regs = math.MaxInt },
		"201 constants":            func(u *api.Unit) { u.Protos[8].Consts = make([]api.Value, 201) },
		"a constant":               func(u *api.Unit) { u.Protos[8].Consts = []api.Value{{Kind: api.KTable}} },
		"8001 instructions":        func(u *api.Unit) { u.Protos[8].Code = make([]api.Inst, 8001) },
		"op 38":                    func(u *api.Unit) { u.Protos[8].Code[0].Op = 38 },
		"op -1":                    func(u *api.Unit) { u.Protos[8].Code[0].Op = -1 },
		"a number below 0":         func(u *api.Unit) { u.Protos[8].Code[0].A = -1 },
		"a number of 256":          func(u *api.Unit) { u.Protos[8].Code[1].A = 256 },
		"an unused number":         func(u *api.Unit) { u.Protos[8].Code[1].B = 1 },
		"a jump's unused number":   func(u *api.Unit) { u.Protos[8].Code[1] = api.Inst{Op: inst.Jump, A: 1} },
		"an upset's unused number": func(u *api.Unit) { u.Protos[8].Code[0] = api.Inst{Op: inst.Upset, C: 1} },
	} {
		u := sample()
		do(&u)
		expect(t, name, u, result{err: api.ErrForm})
		// What the code of an earlier proto violates is not looked for.
		u.Protos[0].Code = nil
		expect(t, name+", without code", u, result{err: api.ErrForm})
	}
}

func TestEndOfCode(t *testing.T) {
	for op := range 38 {
		x := api.Inst{Op: op}
		if op == inst.Jump {
			x.B = 2
		}
		for n := range 4 {
			u := sample()
			p := &u.Protos[inner]
			p.Code = nil
			for range n {
				p.Code = append(p.Code, api.Inst{Op: inst.Nil})
			}
			p.Code = append(p.Code, x)
			want := result{api.ErrVerify, inner, n}
			// A Jump to 2 leads behind the code, back to a Nil, or to itself.
			if op == inst.Return {
				want = result{}
			}
			expect(t, describe(x)+" at the end", u, want)
		}
	}
}

func TestJumpAtTheEnd(t *testing.T) {
	for _, c := range []struct {
		name string
		code []api.Inst
		want result
	}{
		{"back to a tick", []api.Inst{{Op: inst.Tick}, {Op: inst.Jump}}, result{}},
		{"back to a nil", []api.Inst{{Op: inst.Nil}, {Op: inst.Jump}}, result{api.ErrVerify, 0, 1}},
		{"to itself", []api.Inst{{Op: inst.Tick}, {Op: inst.Jump, B: 1}}, result{api.ErrVerify, 0, 1}},
		{"behind the code", []api.Inst{{Op: inst.Tick}, {Op: inst.Jump, B: 2}}, result{api.ErrVerify, 0, 1}},
		{"far behind the code", []api.Inst{{Op: inst.Tick}, {Op: inst.Jump, C: 1}}, result{api.ErrVerify, 0, 1}},
		{"behind a return", []api.Inst{{Op: inst.Tick}, {Op: inst.Return}, {Op: inst.Jump}}, result{}},
		{"after another", []api.Inst{{Op: inst.Tick}, {Op: inst.Jump, B: 7}, {Op: inst.Jump, B: 7}}, result{api.ErrVerify, 0, 1}},
	} {
		expect(t, c.name, single(1, c.code...), c.want)
	}
}

// TestEndComesFirst has code that violates other rules ahead of its end, too.
func TestEndComesFirst(t *testing.T) {
	bad := api.Inst{Op: inst.Nil, A: 9}
	fine := api.Inst{Op: inst.Nil}
	end := api.Inst{Op: inst.Return}
	for _, c := range []struct {
		name string
		code []api.Inst
		at   int
	}{
		{"no return", []api.Inst{bad, fine, fine}, 2},
		{"no return, twice bad", []api.Inst{bad, bad, fine, bad}, 3},
		{"a return in the middle", []api.Inst{fine, bad, end, fine}, 3},
		{"a return", []api.Inst{bad, fine, end}, 0},
		{"a return, later", []api.Inst{fine, bad, bad, end}, 1},
		{"a bad return", []api.Inst{fine, {Op: inst.Return, A: 1}}, 1},
		{"a bad return after another fault", []api.Inst{fine, bad, {Op: inst.Return, A: 1}}, 1},
		{"a bad jump after another fault", []api.Inst{fine, bad, {Op: inst.Jump, B: 200}}, 1},
		{"a false as end", []api.Inst{{Op: inst.Tick}, bad, {Op: inst.False}}, 2},
	} {
		expect(t, c.name, single(1, c.code...), result{api.ErrVerify, 0, c.at})
	}
}

func TestFirstProtoAndInstruction(t *testing.T) {
	bad := api.Inst{Op: inst.Nil, A: 100}
	for first := range 9 {
		u := sample()
		for i := first; i < 9; i++ {
			u.Protos[i].Code = []api.Inst{{Op: inst.Tick}, {Op: inst.Nil}, bad, bad, {Op: inst.Return}}
		}
		expect(t, "bad", u, result{api.ErrVerify, first, 2})
		// The last instruction of a later proto is not examined before the others of an earlier one.
		if first < 8 {
			u.Protos[8].Code = []api.Inst{bad}
			expect(t, "bad, and without an end", u, result{api.ErrVerify, first, 2})
		}
		u.Protos[first].Code = nil
		expect(t, "without code", u, result{api.ErrVerify, first, 0})
	}
}

func TestRegisters(t *testing.T) {
	for op := range 38 {
		shape := inst.Shape(op)
		for i := range shape {
			for _, n := range []int{4, 5, 6, 100, 255} {
				x := api.Inst{Op: op}
				// Its other numbers are right: a jump leads to the instruction 3, a closure is created of the proto 4.
				switch {
				case op == inst.Jump || op == inst.False || op == inst.True:
					x.B = 3
				case op == inst.Fn:
					x.B = 4
				}
				*[]*int{&x.A, &x.B, &x.C}[i] = n
				if shape[i] == 'r' {
					want := result{}
					if n > 4 {
						want = result{api.ErrVerify, inner, placed}
					}
					expect(t, describe(x), with(sample(), inner, x), want)
				}
			}
		}
	}
}

func TestTickAndYield(t *testing.T) {
	place(t, inner, []trial{
		{api.Inst{Op: inst.Tick}, 0},
		{api.Inst{Op: inst.Tick, A: 5}, 0},
		{api.Inst{Op: inst.Tick, A: 6}, 3},
		{api.Inst{Op: inst.Tick, A: 255}, 3},
		{api.Inst{Op: inst.Yield}, 0},
		{api.Inst{Op: inst.Yield, A: 4}, 0},
		{api.Inst{Op: inst.Yield, A: 5}, 0},
		{api.Inst{Op: inst.Yield, A: 6}, 3},
	})
	place(t, outer, []trial{
		{api.Inst{Op: inst.Tick, A: 6}, 0},
		{api.Inst{Op: inst.Tick, A: 7}, 3},
		{api.Inst{Op: inst.Yield, A: 6}, 0},
		{api.Inst{Op: inst.Yield, A: 7}, 3},
	})
}

func TestConstantsAndCaptures(t *testing.T) {
	place(t, inner, []trial{
		{api.Inst{Op: inst.Const}, 0},
		{api.Inst{Op: inst.Const, A: 4, B: 1}, 0},
		{api.Inst{Op: inst.Const, A: 5, B: 1}, 2},
		{api.Inst{Op: inst.Const, B: 2}, 4},
		{api.Inst{Op: inst.Const, B: 1, C: 1}, 4},
		{api.Inst{Op: inst.Const, C: 1}, 4},
		{api.Inst{Op: inst.Const, B: 255, C: 255}, 4},
		{api.Inst{Op: inst.Up}, 0},
		{api.Inst{Op: inst.Up, A: 4, B: 2}, 0},
		{api.Inst{Op: inst.Up, A: 5, B: 2}, 2},
		{api.Inst{Op: inst.Up, A: 4, B: 3}, 4},
		{api.Inst{Op: inst.Up, B: 255}, 4},
		{api.Inst{Op: inst.Upset}, 0},
		{api.Inst{Op: inst.Upset, A: 2, B: 4}, 0},
		{api.Inst{Op: inst.Upset, A: 2, B: 5}, 2},
		{api.Inst{Op: inst.Upset, A: 3, B: 4}, 4},
		{api.Inst{Op: inst.Upset, A: 255}, 4},
	})
	// This one has neither.
	place(t, outer, []trial{
		{api.Inst{Op: inst.Const}, 4},
		{api.Inst{Op: inst.Up}, 4},
		{api.Inst{Op: inst.Upset}, 4},
	})
}

func TestJumps(t *testing.T) {
	for _, op := range []int{inst.Jump, inst.False, inst.True} {
		place(t, inner, []trial{
			{api.Inst{Op: op, B: 0}, 0},         // back to a Tick
			{api.Inst{Op: op, B: 1}, 5},         // back to a Nil
			{api.Inst{Op: op, B: 2}, 5},         // to itself
			{api.Inst{Op: op, B: 3}, 0},         // on to a Tick
			{api.Inst{Op: op, B: 4}, 0},         // on to a Nil
			{api.Inst{Op: op, B: 5}, 0},         // on to the last one
			{api.Inst{Op: op, B: 6}, 5},         // behind it
			{api.Inst{Op: op, B: 255}, 5},       // far behind it
			{api.Inst{Op: op, C: 1}, 5},         // far behind it, where B alone would be a Tick
			{api.Inst{Op: op, B: 3, C: 255}, 5}, // the same
		})
	}
	for _, op := range []int{inst.False, inst.True} {
		place(t, inner, []trial{
			{api.Inst{Op: op, A: 4, B: 0}, 0},
			{api.Inst{Op: op, A: 4, B: 3}, 0},
			{api.Inst{Op: op, A: 5, B: 0}, 2},
			{api.Inst{Op: op, A: 5, B: 3}, 2},
			{api.Inst{Op: op, A: 5, B: 6}, 2},
		})
	}
}

// TestJumpsBack has a jump back to one instruction of each op.
func TestJumpsBack(t *testing.T) {
	for op := range 38 {
		for _, jump := range []int{inst.Jump, inst.False, inst.True} {
			u := sample()
			p := &u.Protos[inner]
			p.Code[1] = api.Inst{Op: op}
			switch op {
			case inst.Jump, inst.False, inst.True:
				p.Code[1].B = 3
			case inst.Fn:
				p.Code[1].B = 4
			}
			p.Code[placed] = api.Inst{Op: jump, B: 1}
			want := result{api.ErrVerify, inner, placed}
			if op == inst.Tick {
				want = result{}
			}
			expect(t, "back to "+inst.Name(op), u, want)
		}
	}
}

func TestFn(t *testing.T) {
	place(t, inner, []trial{
		{api.Inst{Op: inst.Fn, B: 0}, 6},       // functions of the module
		{api.Inst{Op: inst.Fn, B: 2}, 6},       // the last of them
		{api.Inst{Op: inst.Fn, B: 3}, 0},       // itself: its Caps fit
		{api.Inst{Op: inst.Fn, A: 4, B: 4}, 0}, // no Caps
		{api.Inst{Op: inst.Fn, A: 5, B: 4}, 2},
		{api.Inst{Op: inst.Fn, B: 5}, 6}, // the register 5 of 5
		{api.Inst{Op: inst.Fn, B: 6}, 6}, // the capture 3 of 3
		{api.Inst{Op: inst.Fn, B: 7}, 6}, // the third of four Caps
		{api.Inst{Op: inst.Fn, B: 8}, 0},
		{api.Inst{Op: inst.Fn, B: 9}, 6}, // no proto
		{api.Inst{Op: inst.Fn, B: 255}, 6},
		{api.Inst{Op: inst.Fn, B: 4, C: 1}, 6}, // B alone would be right
		{api.Inst{Op: inst.Fn, B: 8, C: 255}, 6},
	})
	// This one has a register more, but no Caps.
	place(t, outer, []trial{
		{api.Inst{Op: inst.Fn, B: 1}, 6},
		{api.Inst{Op: inst.Fn, B: 3}, 6},
		{api.Inst{Op: inst.Fn, B: 4}, 0},
		{api.Inst{Op: inst.Fn, B: 5}, 0},
		{api.Inst{Op: inst.Fn, B: 6}, 6},
		{api.Inst{Op: inst.Fn, B: 7}, 6},
		{api.Inst{Op: inst.Fn, B: 8}, 0},
	})
}

// TestCaptures changes the Caps of a proto of which a closure is created.
func TestCaptures(t *testing.T) {
	for _, c := range []struct {
		caps  []api.Cap
		right bool
	}{
		{nil, true},
		{[]api.Cap{}, true},
		{[]api.Cap{{Index: 4}}, true},
		{[]api.Cap{{Index: 5}}, false},
		{[]api.Cap{{Index: 3}}, true}, // no register's limit is that of the captures
		{[]api.Cap{{Up: true, Index: 2}}, true},
		{[]api.Cap{{Up: true, Index: 3}}, false},
		{[]api.Cap{{Up: true, Index: 4}}, false},
		{[]api.Cap{{Index: 255}}, false},
		{[]api.Cap{{Up: true, Index: 255}}, false},
		{[]api.Cap{{Index: 4}, {Up: true, Index: 2}, {Index: 4}}, true},
		{[]api.Cap{{Index: 5}, {Up: true, Index: 2}, {Index: 4}}, false},
		{[]api.Cap{{Index: 4}, {Up: true, Index: 3}, {Index: 4}}, false},
		{[]api.Cap{{Index: 4}, {Up: true, Index: 2}, {Index: 5}}, false},
	} {
		u := with(sample(), inner, api.Inst{Op: inst.Fn, B: 4})
		u.Protos[4].Caps = c.caps
		want := result{api.ErrVerify, inner, placed}
		if c.right {
			want = result{}
		}
		expect(t, "captures", u, want)
	}
}

// TestUnusedCaptures has protos whose Caps fit nowhere; this matters only where a closure of them is created.
func TestUnusedCaptures(t *testing.T) {
	u := sample()
	u.Protos[4].Caps = []api.Cap{{Index: 255}, {Up: true, Index: 255}}
	expect(t, "captures without a closure", u, result{})
}

func TestCalls(t *testing.T) {
	place(t, inner, []trial{
		{api.Inst{Op: inst.Call}, 0},
		{api.Inst{Op: inst.Call, A: 4, B: 4}, 0},
		{api.Inst{Op: inst.Call, A: 5, B: 4}, 2},
		{api.Inst{Op: inst.Call, B: 5}, 2},
		{api.Inst{Op: inst.Call, C: 4}, 0},
		{api.Inst{Op: inst.Call, C: 5}, 7},
		{api.Inst{Op: inst.Call, B: 1, C: 3}, 0},
		{api.Inst{Op: inst.Call, B: 1, C: 4}, 7},
		{api.Inst{Op: inst.Call, B: 4, C: 1}, 7},
		{api.Inst{Op: inst.Call, B: 4, C: 255}, 7},
		{api.Inst{Op: inst.Own}, 0},
		{api.Inst{Op: inst.Own, A: 4, B: 4}, 0},
		{api.Inst{Op: inst.Own, A: 5, B: 4}, 2},
		{api.Inst{Op: inst.Own, B: 5}, 2}, // though no argument is there
		{api.Inst{Op: inst.Own, B: 3, C: 1}, 0},
		{api.Inst{Op: inst.Own, B: 4, C: 1}, 7},
		{api.Inst{Op: inst.Own, C: 2}, 7}, // 8 parameters
		{api.Inst{Op: inst.Own, C: 3}, 7}, // not a function of the module
		{api.Inst{Op: inst.Own, C: 9}, 7},
		{api.Inst{Op: inst.Own, C: 255}, 7},
		{api.Inst{Op: inst.Use}, 0},
		{api.Inst{Op: inst.Use, A: 4, B: 4}, 0},
		{api.Inst{Op: inst.Use, A: 5, B: 4}, 2},
		{api.Inst{Op: inst.Use, B: 5}, 2},
		{api.Inst{Op: inst.Use, B: 2, C: 1}, 0},
		{api.Inst{Op: inst.Use, B: 3, C: 1}, 7},
		{api.Inst{Op: inst.Use, C: 2}, 7},
		{api.Inst{Op: inst.Use, C: 3}, 7},
		{api.Inst{Op: inst.Use, C: 255}, 7},
	})
	place(t, outer, []trial{
		{api.Inst{Op: inst.Call, B: 2, C: 3}, 0},
		{api.Inst{Op: inst.Call, B: 2, C: 4}, 7},
		{api.Inst{Op: inst.Own, B: 4, C: 1}, 0}, // itself
		{api.Inst{Op: inst.Own, B: 5, C: 1}, 7},
		{api.Inst{Op: inst.Use, B: 3, C: 1}, 0},
		{api.Inst{Op: inst.Use, B: 4, C: 1}, 7},
	})
	u := with(sample(), inner, api.Inst{Op: inst.Use})
	u.Uses = nil
	expect(t, "no uses", u, result{api.ErrVerify, inner, placed})
}

// TestOwnWithoutFunctions has a unit whose only protos are those of closures.
func TestOwnWithoutFunctions(t *testing.T) {
	u := api.Unit{Name: "m", Version: 1, Protos: []api.Proto{{Regs: 1, Code: []api.Inst{{Op: inst.Own}, {Op: inst.Return}}}}}
	expect(t, "own", u, result{api.ErrVerify, 0, 0})
	u.Protos[0].Code[0] = api.Inst{Op: inst.Fn}
	expect(t, "fn", u, result{})
}

// TestNumberOfFunctions has a unit without protos of closures.
func TestNumberOfFunctions(t *testing.T) {
	u := single(1, api.Inst{Op: inst.Own}, api.Inst{Op: inst.Return})
	expect(t, "own", u, result{})
	for _, n := range []int{0, 1} {
		u.Protos[0].Code[0] = api.Inst{Op: inst.Fn, B: n}
		expect(t, "fn", u, result{api.ErrVerify, 0, 0})
	}
}

// greatest is a unit at all limits.
func greatest() api.Unit {
	u := api.Unit{Name: "m", Version: 1, Funs: api.MaxFuns}
	for range api.MaxUses {
		u.Uses = append(u.Uses, api.Use{Module: "a", Name: "f", Params: api.MaxParams})
	}
	for i := range api.MaxProtos {
		p := api.Proto{Params: api.MaxParams, Regs: api.MaxRegs, Consts: make([]api.Value, api.MaxConsts)}
		for range api.MaxCode {
			p.Code = append(p.Code, api.Inst{Op: inst.Tick, A: api.MaxRegs})
		}
		p.Code[api.MaxCode-1] = api.Inst{Op: inst.Jump, B: (api.MaxCode - 2) % 256, C: (api.MaxCode - 2) / 256}
		if i < u.Funs {
			p.Name = "f"
		} else {
			for k := range 255 {
				p.Caps = append(p.Caps, api.Cap{Up: k%2 == 0, Index: min(k, 99)})
			}
			p.Caps[254].Index = 254
		}
		u.Protos = append(u.Protos, p)
	}
	return u
}

func TestGreatest(t *testing.T) {
	u := greatest()
	expect(t, "greatest", u, result{})
	const at, end = 7000, api.MaxCode - 1
	code := u.Protos[63].Code
	for _, c := range []trial{
		{api.Inst{Op: inst.Const, A: 99, B: 199}, 0},
		{api.Inst{Op: inst.Const, A: 99, B: 200}, 4},
		{api.Inst{Op: inst.Add, A: 99, B: 99, C: 99}, 0},
		{api.Inst{Op: inst.Add, A: 99, B: 99, C: 100}, 2},
		{api.Inst{Op: inst.Add, A: 99, B: 100, C: 99}, 2},
		{api.Inst{Op: inst.Add, A: 100, B: 99, C: 99}, 2},
		{api.Inst{Op: inst.Tick, A: 101}, 3},
		{api.Inst{Op: inst.Up, B: 254}, 0},
		{api.Inst{Op: inst.Up, B: 255}, 4},
		{api.Inst{Op: inst.Upset, A: 254}, 0},
		{api.Inst{Op: inst.Upset, A: 255}, 4},
		{api.Inst{Op: inst.Jump, B: end % 256, C: end / 256}, 0},
		{api.Inst{Op: inst.Jump, B: (end + 1) % 256, C: (end + 1) / 256}, 5},
		{api.Inst{Op: inst.True, B: (at - 1) % 256, C: (at - 1) / 256}, 0},
		{api.Inst{Op: inst.True, B: at % 256, C: at / 256}, 5},
		{api.Inst{Op: inst.False, B: (at + 1) % 256, C: (at + 1) / 256}, 0},
		{api.Inst{Op: inst.Fn, B: 31}, 6},
		{api.Inst{Op: inst.Fn, B: 32}, 0},
		{api.Inst{Op: inst.Fn, B: 63}, 0},
		{api.Inst{Op: inst.Fn, B: 64}, 6},
		{api.Inst{Op: inst.Call, B: 91, C: 8}, 0},
		{api.Inst{Op: inst.Call, B: 92, C: 8}, 7},
		{api.Inst{Op: inst.Own, B: 92, C: 31}, 0},
		{api.Inst{Op: inst.Own, B: 93, C: 31}, 7},
		{api.Inst{Op: inst.Own, B: 92, C: 32}, 7},
		{api.Inst{Op: inst.Use, B: 92, C: 15}, 0},
		{api.Inst{Op: inst.Use, B: 93, C: 15}, 7},
		{api.Inst{Op: inst.Use, B: 92, C: 16}, 7},
	} {
		code[at] = c.x
		want := result{}
		if c.rule != 0 {
			want = result{api.ErrVerify, 63, at}
		}
		if got := check(u); got != want {
			t.Errorf("%s: Check = %v; want %v", describe(c.x), got, want)
		}
		if got := broken(u, u.Protos[63], at); got != c.rule {
			t.Errorf("%s: the model says rule %d; want %d", describe(c.x), got, c.rule)
		}
	}
}

// TestMostClosures has as many captures as a unit can make Check examine.
func TestMostClosures(t *testing.T) {
	u := greatest()
	for i := u.Funs; i < len(u.Protos); i++ {
		code := u.Protos[i].Code
		for at := range code[:len(code)-2] {
			code[at] = api.Inst{Op: inst.Fn, B: i}
		}
	}
	if got := check(u); got != (result{}) {
		t.Errorf("Check = %v", got)
	}
}

// TestEachInstruction places each valid instruction of chosen numbers in a function and in a closure.
func TestEachInstruction(t *testing.T) {
	chosen := []int{0, 1, 2, 3, 4, 5, 6, 7, 8, 9, 254, 255}
	right := 0
	for op := range 38 {
		for _, a := range chosen {
			for _, b := range chosen {
				for _, c := range chosen {
					x := api.Inst{Op: op, A: a, B: b, C: c}
					for _, proto := range []int{outer, inner} {
						u := with(sample(), proto, x)
						got, want := check(u), model(u)
						if got != want {
							t.Errorf("%s: Check = %v; want %v", describe(x), got, want)
						}
						if got == (result{}) {
							right++
						}
					}
				}
			}
		}
	}
	if right < 3000 {
		t.Errorf("%d are right", right)
	}
}

// Random units.

func below(r *rand.Rand, limit int) int {
	if limit < 1 || r.Intn(60) == 0 {
		return min(max(limit, 0)+r.Intn(3), 255)
	}
	return r.Intn(limit)
}

func randomInst(r *rand.Rand, u api.Unit, p api.Proto, length int) api.Inst {
	x := api.Inst{Op: r.Intn(38)}
	numbers := []*int{&x.A, &x.B, &x.C}
	for i, letter := range inst.Shape(x.Op) {
		switch letter {
		case 'r':
			*numbers[i] = below(r, p.Regs)
		case 'u':
			*numbers[i] = below(r, len(p.Caps))
		}
	}
	switch x.Op {
	case inst.Tick, inst.Yield:
		x.A = below(r, p.Regs+1)
	case inst.Const:
		x.B = below(r, len(p.Consts))
	case inst.Jump, inst.False, inst.True:
		x.B = below(r, length)
	case inst.Fn:
		x.B = u.Funs + below(r, len(u.Protos)-u.Funs)
	case inst.Call:
		x.C = below(r, p.Regs-x.B)
	case inst.Own:
		x.C = below(r, u.Funs)
	case inst.Use:
		x.C = below(r, len(u.Uses))
	}
	return x
}

func randomCode(r *rand.Rand, u api.Unit, p api.Proto) []api.Inst {
	l := make([]api.Inst, 1+r.Intn(6))
	for i := range l {
		l[i] = randomInst(r, u, p, len(l))
		// A unit without any violation would be rare otherwise.
		if r.Intn(2) == 0 {
			l[i] = api.Inst{Op: inst.Tick, A: below(r, p.Regs+1)}
		}
	}
	switch r.Intn(20) {
	case 0:
	case 1, 2, 3, 4, 5:
		l[len(l)-1] = api.Inst{Op: inst.Jump, B: below(r, len(l))}
	default:
		l[len(l)-1] = api.Inst{Op: inst.Return, A: below(r, p.Regs)}
	}
	if r.Intn(60) == 0 {
		return nil
	}
	return l
}

func randomUnit(r *rand.Rand) api.Unit {
	u := api.Unit{Name: "m", Version: 1}
	for range r.Intn(3) {
		u.Uses = append(u.Uses, api.Use{Module: "a", Name: "f", Params: r.Intn(4)})
	}
	protos := 1 + r.Intn(4)
	u.Funs = r.Intn(protos + 1)
	for i := range protos {
		p := api.Proto{Params: r.Intn(4), Regs: 3 + r.Intn(4), Consts: make([]api.Value, r.Intn(4))}
		if i < u.Funs {
			p.Name = "f"
		} else {
			for range r.Intn(3) {
				p.Caps = append(p.Caps, api.Cap{Up: r.Intn(2) == 0, Index: below(r, 3)})
			}
		}
		u.Protos = append(u.Protos, p)
	}
	if r.Intn(100) == 0 {
		u.Protos[0].Regs = 0
	}
	for i := range u.Protos {
		u.Protos[i].Code = randomCode(r, u, u.Protos[i])
	}
	return u
}

func TestRandomUnits(t *testing.T) {
	r := rand.New(rand.NewSource(15))
	found := map[api.Errno]int{}
	for range 100000 {
		u := randomUnit(r)
		got, want := check(u), model(u)
		if got != want {
			t.Fatalf("%+v: Check = %v; want %v", u, got, want)
		}
		found[got.err]++
		if got.err == api.OK {
			checkJumps(t, u)
		}
	}
	for err, least := range map[api.Errno]int{api.OK: 10000, api.ErrVerify: 10000, api.ErrForm: 300} {
		if found[err] < least {
			t.Errorf("%d times error %d", found[err], err)
		}
	}
}

// P15.2

// checkJumps follows all jumps of code that may be executed.
func checkJumps(t *testing.T, u api.Unit) {
	for _, p := range u.Protos {
		for at, x := range p.Code {
			if x.Op != inst.Jump && x.Op != inst.False && x.Op != inst.True {
				continue
			}
			to := wide(x)
			if to >= len(p.Code) {
				t.Fatalf("%+v: a jump from %d to %d", p.Code, at, to)
			}
			if to <= at && p.Code[to].Op != inst.Tick {
				t.Fatalf("%+v: a jump back from %d to %d", p.Code, at, to)
			}
		}
		checkSteps(t, p.Code)
	}
}

// checkSteps executes the jumps of code from each instruction on, with all conditions true or all false: the end of the code is never passed, and a Tick or a Return is reached after no more steps than there are instructions.
func checkSteps(t *testing.T, code []api.Inst) {
	for start := range code {
		for _, taken := range []bool{false, true} {
			at := next(code[start], start, taken)
			for steps := 0; at >= len(code) || code[at].Op != inst.Tick && code[at].Op != inst.Return; steps++ {
				if at >= len(code) || steps > len(code) {
					t.Fatalf("%+v: from %d to %d in %d steps", code, start, at, steps)
				}
				at = next(code[at], at, taken)
			}
		}
	}
}

// next returns where the execution goes on; a Return is left where it is.
func next(x api.Inst, at int, taken bool) int {
	switch {
	case x.Op == inst.Return:
		return at
	case x.Op == inst.Jump, taken && (x.Op == inst.False || x.Op == inst.True):
		return wide(x)
	}
	return at + 1
}

// TestAllShortCode has all codes of up to four of some instructions.
func TestAllShortCode(t *testing.T) {
	kinds := []api.Inst{{Op: inst.Tick}, {Op: inst.Nil}, {Op: inst.Nil, A: 1}, {Op: inst.Return}}
	for to := range 5 {
		kinds = append(kinds, api.Inst{Op: inst.Jump, B: to}, api.Inst{Op: inst.True, B: to})
	}
	right := 0
	var extend func(code []api.Inst)
	extend = func(code []api.Inst) {
		u := single(1, code...)
		got, want := check(u), model(u)
		if got != want {
			t.Errorf("%v: Check = %v; want %v", code, got, want)
		}
		if got == (result{}) {
			right++
			checkJumps(t, u)
		}
		if len(code) == 4 {
			return
		}
		for _, x := range kinds {
			extend(append(code[:len(code):len(code)], x))
		}
	}
	extend(nil)
	if right < 500 {
		t.Errorf("%d are right", right)
	}
}

// The rules R4 and R5.

func TestArguments(t *testing.T) {
	for _, x := range []api.Inst{{Op: inst.Nil}, {Op: inst.Nil, A: 5}, {Op: inst.Fn, B: 7}, {Op: inst.Use, C: 2}, {Op: 38}} {
		u := roomy(with(sample(), inner, x))
		before := roomy(with(sample(), inner, x))
		first := check(u)
		if again := check(u); again != first {
			t.Errorf("%s: Check = %v, then %v", describe(x), first, again)
		}
		if !reflect.DeepEqual(whole(u), whole(before)) {
			t.Errorf("%s: the unit was changed", describe(x))
		}
	}
}

// roomy gives each list spare capacity with an element that differs from zero.
func roomy(u api.Unit) api.Unit {
	u.Uses = spare(u.Uses, api.Use{Module: "spare"})
	u.Protos = spare(u.Protos, api.Proto{Name: "spare"})
	for i := range u.Protos {
		p := &u.Protos[i]
		p.Code = spare(p.Code, api.Inst{Op: 77})
		p.Consts = spare(p.Consts, api.Value{N: 77})
		p.Caps = spare(p.Caps, api.Cap{Index: 77})
	}
	return u
}

func spare[T any](l []T, x T) []T {
	n := len(l)
	return append(l, x)[: n : n+1]
}

// whole extends each list by its spare element.
func whole(u api.Unit) api.Unit {
	u.Uses = u.Uses[:cap(u.Uses)]
	u.Protos = append([]api.Proto(nil), u.Protos[:cap(u.Protos)]...)
	for i := range u.Protos {
		p := &u.Protos[i]
		p.Code, p.Consts, p.Caps = p.Code[:cap(p.Code)], p.Consts[:cap(p.Consts)], p.Caps[:cap(p.Caps)]
	}
	return u
}

// TestSharedMemory has protos whose lists are the same memory.
func TestSharedMemory(t *testing.T) {
	u := sample()
	for i := range u.Protos {
		u.Protos[i].Code = u.Protos[inner].Code
	}
	expect(t, "one code", u, result{})
	u.Protos[0].Code[1].A = 4
	expect(t, "one code, for a proto of one register", u, result{api.ErrVerify, 0, 1})
}
