package gen_test

import (
	"fmt"
	"reflect"
	"slices"
	"strings"
	"testing"

	"chrysalis/api"
	"chrysalis/gen"
	"chrysalis/image"
	"chrysalis/inst"
	"chrysalis/parse"
	"chrysalis/scope"
	"chrysalis/show"
	"chrysalis/tree"
	"chrysalis/verify"
)

// parsed returns the tree of a text.
func parsed(t *testing.T, s string) []api.Node {
	t.Helper()
	l, err, at := parse.Text(s)
	if err != api.OK {
		t.Fatalf("the text %q is wrong: %d at %d", s, err, at)
	}
	return l
}

// unit returns the unit of a tree after checking what the chapter says about it.
func unit(t *testing.T, l []api.Node) api.Unit {
	t.Helper()
	u, err, at := gen.Unit(l)
	if err != api.OK || at != 0 {
		t.Fatalf("Unit of %s = %d, %d; want OK, 0", printed(l), err, at)
	}
	checkUnit(t, l, u)
	return u
}

// printed returns the text of a tree, or what can be seen of it.
func printed(l []api.Node) string {
	s, err, _ := show.Text(l)
	if err != api.OK {
		return fmt.Sprintf("a tree of %d nodes", len(l))
	}
	return s
}

// inFunction returns the nodes of a function without the functions nested in it.
func inFunction(l []api.Node, fun int) (nodes []int) {
	for at := fun + 1; at < tree.End(l, fun); at++ {
		nodes = append(nodes, at)
		if l[at].Kind == api.NFn {
			at = tree.End(l, at) - 1
		}
	}
	return nodes
}

// blockOf returns the innermost block or function around a node.
func blockOf(l []api.Node, at int) int {
	for around := at - 1; ; around-- {
		if k := l[around].Kind; (k == api.NBlock || k == api.NFun || k == api.NFn) && tree.End(l, around) > at {
			return around
		}
	}
}

// registers returns the registers of the variables of a function: how many variables are visible where each is declared.
func registers(l []api.Node, fun int) (regs []int) {
	var declared []int
	for _, at := range inFunction(l, fun) {
		if l[at].Kind != api.NParam && l[at].Kind != api.NLet {
			continue
		}
		visible := 0
		for _, earlier := range declared {
			if tree.End(l, blockOf(l, earlier)) > at {
				visible++
			}
		}
		declared, regs = append(declared, at), append(regs, visible)
	}
	return regs
}

// checkUnit compares a unit with what P16.1 and P16.3 say.
func checkUnit(t *testing.T, l []api.Node, u api.Unit) {
	t.Helper()
	if !image.Right(u) {
		t.Fatalf("the unit of %s is not valid", printed(l))
	}
	if err, proto, at := verify.Check(u); err != api.OK {
		t.Fatalf("%s: the code of proto %d is wrong at %d: %v", printed(l), proto, at, u.Protos[proto].Code)
	}
	info, _, _ := scope.Check(l)
	if u.Name != l[0].Name || u.Version != int(l[0].N) || u.Funs != info.Top || len(u.Protos) != len(info.Funs) {
		t.Fatalf("%s: a unit %s %d with Funs %d and %d protos", printed(l), u.Name, u.Version, u.Funs, len(u.Protos))
	}
	if !slices.Equal(u.Uses, info.Uses) {
		t.Errorf("%s: the Uses are %v, not %v", printed(l), u.Uses, info.Uses)
	}
	for i, f := range info.Funs {
		want := api.Proto{Name: l[f.Node].Name, Params: f.Params, Regs: max(f.Need, f.Params+1)}
		for _, c := range f.Caps {
			if !c.Up {
				c.Index = registers(l, info.Funs[f.Parent].Node)[c.Index]
			}
			want.Caps = append(want.Caps, c)
		}
		got := u.Protos[i]
		checkCode(t, l, f.Node, got)
		got.Code, got.Consts = nil, nil
		if !same(got, want) {
			t.Errorf("%s: proto %d is %v, not %v", printed(l), i, got, want)
		}
	}
}

// same compares protos. A nil slice is the same as an empty one.
func same(a, b api.Proto) bool {
	return a.Name == b.Name && a.Params == b.Params && a.Regs == b.Regs &&
		slices.Equal(a.Code, b.Code) && slices.Equal(a.Consts, b.Consts) && slices.Equal(a.Caps, b.Caps)
}

func count(p api.Proto, op int) (n int) {
	for _, x := range p.Code {
		if x.Op == op {
			n++
		}
	}
	return n
}

// checkCode counts the instructions that the chapter demands.
func checkCode(t *testing.T, l []api.Node, fun int, p api.Proto) {
	t.Helper()
	stmts, yields := 0, 0
	for _, at := range inFunction(l, fun) {
		if tree.Stmt(l[at].Kind) {
			stmts++
		}
		if l[at].Kind == api.NYield {
			yields++
		}
	}
	if count(p, inst.Tick) != stmts || count(p, inst.Yield) != yields {
		t.Errorf("%s: the function at node %d has %d statements and %d yields, and the code %v", printed(l), fun, stmts, yields, p.Code)
	}
	if last := p.Code[len(p.Code)-1]; last.Op != inst.Return {
		t.Errorf("%s: the code of the function at node %d ends with %v", printed(l), fun, last)
	}
}

// checkBehaviour executes all functions of the module, as code and as a tree, and returns what was observed of the first one.
func checkBehaviour(t *testing.T, l []api.Node) []string {
	t.Helper()
	u := unit(t, l)
	var first []string
	for i, p := range u.Protos[:u.Funs] {
		meant, done := newWorld(), newWorld()
		want := observe(meant, &walker{world: meant, l: l}, i, p.Params)
		got := observe(done, &machine{world: done, u: u}, i, p.Params)
		if i == 0 {
			first = got
		}
		if slices.Equal(got, want) {
			continue
		}
		at := 0
		for at < len(got) && at < len(want) && got[at] == want[at] {
			at++
		}
		t.Fatalf("%s: function %d: from event %d on there is %.3q, and should be %.3q", printed(l), i, at, got[at:], want[at:])
	}
	return first
}

// P16.1

func TestExamples(t *testing.T) {
	u := unit(t, parsed(t, "module m 1; fn f() { return 1; }"))
	if len(u.Protos) != 1 || u.Protos[0].Name != "f" || u.Protos[0].Params != 0 || u.Protos[0].Regs != 1 || len(u.Protos[0].Caps) != 0 {
		t.Errorf("the first example has the protos %v", u.Protos)
	}
	u = unit(t, parsed(t, "module m 1; fn f() { if 1 { let a = 1; } let c = 1; return fn() { return c; }; }"))
	if len(u.Protos) != 2 || !slices.Equal(u.Protos[1].Caps, []api.Cap{{Index: 0}}) {
		t.Errorf("the second example has the protos %v", u.Protos)
	}
}

func TestModule(t *testing.T) {
	l := parsed(t, "module some_name 2147483647; use a.b/8; use a.c/0; use b.b/1; fn g(x, y) { return fn(a) { return fn() { return 1; }; }; } fn f() { fn() { }; }")
	u := unit(t, l)
	if u.Name != "some_name" || u.Version != 1<<31-1 || u.Funs != 2 {
		t.Errorf("the unit is %s %d with Funs %d", u.Name, u.Version, u.Funs)
	}
	if want := []api.Use{{Module: "a", Name: "b", Params: 8}, {Module: "a", Name: "c"}, {Module: "b", Name: "b", Params: 1}}; !slices.Equal(u.Uses, want) {
		t.Errorf("the Uses are %v", u.Uses)
	}
	want := []api.Proto{{Name: "g", Params: 2, Regs: 3}, {Name: "f", Regs: 1}, {Params: 1, Regs: 2}, {Regs: 1}, {Regs: 1}}
	for i := range u.Protos {
		u.Protos[i].Code, u.Protos[i].Consts = nil, nil
	}
	if !slices.EqualFunc(u.Protos, want, same) {
		t.Errorf("the protos are %v, not %v", u.Protos, want)
	}
	u = unit(t, parsed(t, "module m 1;"))
	if u.Name != "m" || u.Version != 1 || len(u.Uses) != 0 || u.Funs != 0 || len(u.Protos) != 0 {
		t.Errorf("the unit of an empty module is %v", u)
	}
}

func TestCaps(t *testing.T) {
	for _, c := range []struct {
		body string
		want [][]api.Cap // of the functions from the one with the number 1 on
	}{
		{"return fn() { return p; };", [][]api.Cap{{{Index: 0}}}},
		{"return fn() { return q; };", [][]api.Cap{{{Index: 1}}}},
		{"return fn() { q = p; };", [][]api.Cap{{{Index: 1}, {Index: 0}}}},
		{"let a = 1; let b = 2; return fn() { return b + a + b + p; };", [][]api.Cap{{{Index: 3}, {Index: 2}, {Index: 0}}}},
		{"if p { let a = 1; let b = 2; } else { let c = 1; fn() { c; }; } let d = 1; fn() { d; };", [][]api.Cap{{{Index: 2}}, {{Index: 2}}}},
		{"while p { let a = 1; if a { let b = 1; } let c = 1; fn() { c; }; } let d = 1; let e = 1; fn() { e; };", [][]api.Cap{{{Index: 3}}, {{Index: 3}}}},
		{"let a = fn(x) { if x { let y = 1; } let z = 1; return fn() { return z + q; }; };", [][]api.Cap{{{Index: 1}}, {{Index: 1}, {Up: true}}}},
		{"fn() { return fn() { return fn() { return q + p; }; }; };", [][]api.Cap{{{Index: 1}, {Index: 0}}, {{Up: true}, {Up: true, Index: 1}}, {{Up: true}, {Up: true, Index: 1}}}},
		{"fn() { p; fn() { let a = 1; if a { let b = 1; } let c = 1; fn() { c; q; p; }; }; };", [][]api.Cap{{{Index: 0}, {Index: 1}}, {{Up: true, Index: 1}, {Up: true}}, {{Index: 1}, {Up: true}, {Up: true, Index: 1}}}},
	} {
		u := unit(t, parsed(t, "module m 1; fn f(p, q) { "+c.body+" }"))
		for i, p := range u.Protos[1:] {
			if !slices.Equal(p.Caps, c.want[i]) {
				t.Errorf("%s: function %d has the Caps %v, not %v", c.body, i+1, p.Caps, c.want[i])
			}
		}
	}
}

func TestRegs(t *testing.T) {
	for _, c := range []struct {
		fun  string
		want int
	}{
		{"fn f() { }", 1},
		{"fn f(a) { }", 2},
		{"fn f(a, b, c, d, e, g, h, i) { }", 9},
		{"fn f(a) { return a; }", 2},
		{"fn f(a) { return a + a; }", 3},
		{"fn f(a) { let b = 1; }", 2},
		{"fn f(a) { let b = 1; yield; }", 2},
		{"fn f(a) { let b = 1; b; }", 3},
		{"fn f() { if 1 { let a = 1; let b = 1; } let c = 1; }", 2},
		{"fn f() { f(); }", 1},
		{"fn f(a) { f(f(f(a))); }", 2},
		{"fn f(a, b) { f(a, f(a, b)); }", 5},
		{"fn f(a) { a(1, 2, 3); }", 5},
		{"fn f(a) { a[1] = 2; }", 4},
		{"fn f(a) { return (a or 1) and a; }", 2},
	} {
		u := unit(t, parsed(t, "module m 1; "+c.fun))
		if u.Protos[0].Regs != c.want {
			t.Errorf("%s has Regs %d, not %d", c.fun, u.Protos[0].Regs, c.want)
		}
	}
}

// checkError expects an error of Unit.
func checkError(t *testing.T, what string, l []api.Node, want api.Errno, wantAt int) {
	t.Helper()
	u, err, at := gen.Unit(l)
	if err != want || at != wantAt || !reflect.DeepEqual(u, api.Unit{}) {
		t.Errorf("Unit of %s = %v, %d, %d; want nothing, %d, %d", what, u, err, at, want, wantAt)
	}
}

func TestScopeErrors(t *testing.T) {
	for _, c := range []struct {
		text string
		want api.Errno
		at   int
	}{
		{"module m 1; fn f() { return x; }", api.ErrScope, 4},
		{"module m 1; fn f() { } fn f() { }", api.ErrTwice, 3},
		{"module m 1; fn f(a) { let a = 1; }", api.ErrTwice, 4},
		{"module m 1; fn f(a) { f(); }", api.ErrScope, 6},
		{"module m 1; fn f(a) { a.b(); }", api.ErrScope, 5},
		{"module m 1; fn f(a) { while 1 { fn() { break; }; } }", api.ErrScope, 10},
		{"module m 1; fn f() { x = 1; }", api.ErrScope, 3},
	} {
		l := parsed(t, c.text)
		checkError(t, c.text, l, c.want, c.at)
		if info, err, at := scope.Check(l); err != c.want || at != c.at {
			t.Errorf("scope.Check of %s = %v, %d, %d", c.text, info, err, at)
		}
	}
	checkError(t, "nothing", nil, api.ErrShort, 0)
	checkError(t, "no nodes", []api.Node{}, api.ErrShort, 0)
	checkError(t, "no module", []api.Node{{Kind: api.NNil}}, api.ErrForm, 0)
	checkError(t, "no kind", []api.Node{{}}, api.ErrForm, 0)
	checkError(t, "a child that is missing", []api.Node{{Kind: api.NModule, Name: "m", N: 1, Kids: 1}}, api.ErrShort, 0)
	checkError(t, "a statement too few", []api.Node{{Kind: api.NModule, Name: "m", N: 1, Kids: 1}, {Kind: api.NFun, Name: "f", Kids: 1}, {Kind: api.NNil}}, api.ErrForm, 1)
	checkError(t, "too many nodes", make([]api.Node, api.MaxNodes+1), api.ErrBig, 0)
}

// integers returns statements with so many different integers, from a first one on.
func integers(first, size int) string {
	var b strings.Builder
	for i := range size {
		fmt.Fprintf(&b, "%d;", first+i)
	}
	return b.String()
}

// texts returns statements with so many different texts: the digits of integers.
func texts(first, size int) string {
	var b strings.Builder
	for i := range size {
		fmt.Fprintf(&b, "%q;", fmt.Sprint(first+i))
	}
	return b.String()
}

func TestConsts(t *testing.T) {
	for _, c := range []struct {
		funs string
		want api.Errno
		fun  int // the function where the error is
	}{
		{"fn f() { " + integers(0, 200) + " }", api.OK, 0},
		{"fn f() { " + integers(0, 201) + " }", api.ErrBig, 0},
		{"fn f() { " + integers(0, 257) + " }", api.ErrBig, 0},
		{"fn f() { " + integers(0, 300) + " }", api.ErrBig, 0},
		{"fn f() { " + texts(0, 200) + " }", api.OK, 0},
		{"fn f() { " + texts(0, 201) + " }", api.ErrBig, 0},
		{"fn f() { " + integers(0, 100) + texts(0, 100) + " }", api.OK, 0},
		{"fn f() { " + integers(0, 101) + texts(0, 100) + " }", api.ErrBig, 0},
		{"fn f() { " + integers(0, 100) + texts(0, 101) + " }", api.ErrBig, 0},
		// The same constant once more, one after a sign, and nil, which is none.
		{"fn f() { " + integers(0, 200) + integers(0, 200) + " - 7; nil; state; {}; }", api.OK, 0},
		{"fn f() { " + texts(0, 200) + texts(100, 100) + " }", api.OK, 0},
		{"fn f() { " + integers(0, 199) + "\"\"; }", api.OK, 0},
		{"fn f() { " + integers(0, 200) + "\"\"; }", api.ErrBig, 0},
		{"fn f() { " + integers(1, 200) + " - 200; 0; }", api.ErrBig, 0},
		{"fn f() { " + integers(0, 199) + "9223372036854775807; }", api.OK, 0},
		{"fn f() { " + integers(0, 199) + "9223372036854775807; 9223372036854775806; }", api.ErrBig, 0},
		{"fn f(a, b) { let c = 1; " + integers(0, 200) + integers(0, 200) + " 1 + (0 + 2); }", api.OK, 0},
		// What is nested does not count, wherever it is.
		{"fn f() { " + integers(0, 100) + "fn() { " + integers(100, 200) + " };" + integers(100, 100) + " }", api.OK, 0},
		{"fn f() { " + integers(0, 100) + "fn() { " + integers(100, 101) + " };" + integers(100, 101) + " }", api.ErrBig, 0},
		{"fn f() { fn() { " + integers(0, 150) + "fn() { " + integers(300, 150) + " }; }; }", api.OK, 0},
		// The numbers of the functions decide, not their places.
		{"fn f() { fn() { " + integers(0, 201) + " }; } fn g() { " + integers(0, 201) + " }", api.ErrBig, 1},
		{"fn f() { fn() { " + integers(0, 201) + " }; } fn g() { " + integers(0, 200) + " }", api.ErrBig, 2},
		{"fn f() { " + integers(0, 201) + " } fn g() { " + integers(0, 201) + " }", api.ErrBig, 0},
		{"fn f() { fn() { }; fn() { " + integers(0, 201) + "}; fn() { " + integers(0, 201) + " }; }", api.ErrBig, 2},
		{"fn f() { fn() { fn() { " + integers(0, 201) + " };" + integers(0, 201) + " }; }", api.ErrBig, 1},
	} {
		l := parsed(t, "module m 1; "+c.funs)
		info, _, _ := scope.Check(l)
		if c.want == api.OK {
			checkBehaviour(t, l)
		} else {
			checkError(t, c.funs, l, c.want, info.Funs[c.fun].Node)
		}
	}
	// What scope.Check rejects comes first, also if it is further behind.
	checkError(t, "a scope error behind too many constants", parsed(t, "module m 1; fn f() { "+integers(0, 201)+"x; }"), api.ErrScope, 3+2*201+1)
}

// P16.2

func TestText(t *testing.T) {
	for _, s := range []string{
		"module m 1;", "module m 3; fn f(a) { return a + 1; }", "module m 1; fn f() { return x; }", "module m 1; fn f() { 1 = 2; }",
		"", "module", "module m 1; !", "module m 1; fn f() { " + integers(0, 201) + " }", strings.Repeat(" ", api.MaxText+1), "module m 07;",
		"module m 1; fn f() { } fn f() { }", "module m 0;", "module m 1; fn f() { let a = \"x; }",
	} {
		u, err, at := gen.Text(s)
		l, wantErr, wantAt := parse.Text(s)
		var want api.Unit
		if wantErr == api.OK {
			want, wantErr, wantAt = gen.Unit(l)
		}
		if !reflect.DeepEqual(u, want) || err != wantErr || at != wantAt {
			t.Errorf("Text(%.40q) = %v, %d, %d; want %v, %d, %d", s, u, err, at, want, wantErr, wantAt)
		}
	}
	for _, c := range []struct {
		text string
		err  api.Errno
		at   int
	}{
		{"module m 1; fn f() { 1 = 2; }", api.ErrToken, 23},
		{"module m 1; fn f() { ! }", api.ErrSign, 21},
		{"module m 1; fn f() { return x; }", api.ErrScope, 4},
		{"", api.ErrToken, 0},
	} {
		if u, err, at := gen.Text(c.text); err != c.err || at != c.at || !reflect.DeepEqual(u, api.Unit{}) {
			t.Errorf("Text(%q) = %v, %d, %d; want nothing, %d, %d", c.text, u, err, at, c.err, c.at)
		}
	}
}

// P16.3

func TestOutput(t *testing.T) {
	for _, c := range []struct {
		funs string
		want []string
	}{
		{"fn f() { }", []string{"ends with nil"}},
		{"fn f() { return 7; emit 8; }", []string{"ends with 7"}},
		{"fn f() { emit 1 + 2; }", []string{"3", "ends with nil"}},
		{"fn f(a, b) { emit a; emit b; a = b; b = 5; emit a; emit b; }", []string{"3", "2", "2", "5", "ends with nil"}},
		{"fn f() { let i = 0; while i < 3 { emit i; i = i + 1; } }", []string{"0", "1", "2", "ends with nil"}},
		{"fn f() { let i = 0; while 1 { i = i + 1; if i == 2 { continue; } if 4 < i { break; } emit i; } emit -i; }", []string{"1", "3", "4", "-5", "ends with nil"}},
		{"fn f() { let i = 0; while i < 2 { let j = 0; while 1 { j = j + 1; if j == 2 { break; } emit i * 10 + j; } i = i + 1; } return i; }", []string{"1", "11", "ends with 2"}},
		{"fn f() { while 1 { } }", []string{"has no fuel"}},
		{"fn f() { while 1 { continue; } }", []string{"has no fuel"}},
		{"fn f() { while 0 { emit 1; } while nil { emit 2; } while \"\" { return 3; } }", []string{"ends with 3"}},
		{"fn f(a) { if a { emit 1; } if a - a { emit 2; } else { emit 3; } if a { emit 4; } else { emit 5; } if nil { emit 6; } }", []string{"1", "3", "4", "ends with nil"}},
		{"fn f() { emit 0 or 2; emit 3 or 1 / 0; emit 0 and 1 / 0; emit 3 and 4; emit nil or 0; emit nil and 1; }", []string{"2", "3", "0", "4", "0", "nil", "ends with nil"}},
		{"fn f() { emit 7 - 2; emit 7 * 2; emit 7 / 2; emit 7 % 2; emit \"a\" .. \"b\"; emit 7 == 2; emit 7 != 2; emit 2 < 2; emit 2 <= 2; emit not 2; emit len \"abc\"; emit -2; }", []string{"5", "14", "3", "1", "\"ab\"", "0", "1", "0", "1", "0", "3", "-2", "ends with nil"}},
		{"fn f() { let t = {}; t[1] = 2; t[\"x\"] = t; emit t[1]; emit t[\"x\"][1]; emit t[3]; emit len t; emit t; emit t == {}; }", []string{"2", "2", "nil", "2", "t0", "0", "ends with nil"}},
		{"fn f() { emit state; put 5; emit state; }", []string{"nil", "5", "ends with nil"}},
		{"fn f() { emit g(1) + h(2, 3); } fn g(a) { return a * 10; } fn h(a, b) { return a * b; }", []string{"16", "ends with nil"}},
		{"fn f() { let c = fn(a) { return fn() { a = a + 1; return a; }; }; let d = c(10); emit d(); emit d(); emit c(1)(); }", []string{"11", "12", "2", "ends with nil"}},
		{"fn f() { let t = {}; let i = 0; while i < 3 { let j = i; t[i] = fn() { j = j + 1; return j; }; i = i + 1; } emit t[0](); emit t[0](); emit t[2](); emit t[1](); }", []string{"1", "2", "3", "2", "ends with nil"}},
		{"fn f() { let a = 1; let g = fn() { a = a + 1; return a; }; a = 10; emit a + g() + a; emit a; }", []string{"32", "11", "ends with nil"}},
		{"fn f(a) { let g = fn() { return fn() { a = a + 1; }; }; g()(); g()(); emit a; }", []string{"5", "ends with nil"}},
		{"fn f() { emit 1; emit nil + 1; emit 2; }", []string{"1", "fails: type"}},
		{"fn f() { emit 1 / 0; }", []string{"fails: zero"}},
		{"fn f() { let a = 1; a(); }", []string{"fails: call"}},
		{"fn f() { fn(a) { }(); }", []string{"fails: arity"}},
		{"fn f() { f(); }", []string{"fails: deep"}},
		{"fn f() { let a = 1; emit spawn fn() { emit a; a = 7; }; spawn fn() { emit a; }; a = 3; }", []string{"c1", "ends with nil", "3", "ends with nil", "7", "ends with nil"}},
		{"fn f() { spawn fn(a) { }; }", []string{"fails: arity"}},
		{"fn f() { spawn 1; }", []string{"fails: call"}},
		{"fn f(a) { let b = a; a = 8; yield; emit b; if b { let c = 1; emit c; } let d = 2; emit d; }", []string{"3", "1", "2", "ends with nil"}},
		{"fn f() { let a = 1; let f2 = fn() { a = 5; return 1; }; emit a + f2() + a; let t = {}; t[a] = f2() + a; emit t[5]; }", []string{"7", "6", "ends with nil"}},
	} {
		l := parsed(t, "module m 1; "+c.funs)
		if got := output(checkBehaviour(t, l)); !slices.Equal(got, c.want) {
			t.Errorf("%s: the output is %q, not %q", c.funs, got, c.want)
		}
	}
}

// ticks returns the events at which statements begin, without the word.
func ticks(events []string) (l []string) {
	for _, e := range events {
		if refs, is := strings.CutPrefix(e, "tick |"); is {
			l = append(l, strings.TrimSpace(refs))
		}
	}
	return l
}

func TestTicks(t *testing.T) {
	for _, c := range []struct {
		funs string
		want []string // what is referenced when each statement begins
	}{
		{"fn f() { }", nil},
		{"fn f(a, b) { a; return b; a; }", []string{"3 2", "3 2"}},
		{"fn f() { let i = 0; while i < 2 { emit i; i = i + 1; } }", []string{"", "0", "0", "0", "1", "1", "1", "2"}},
		{"fn f() { let a = 7; if a { let b = 8; yield; } else { let c = 9; } let d = 10; yield; }", []string{"", "7", "7", "7 8", "7", "7 10"}},
		{"fn f() { let a = 7; if 0 { let b = 8; yield; } else { let c = 9; yield; } yield; }", []string{"", "7", "7", "7 9", "7"}},
		{"fn f() { while 1 { let a = 1; while 1 { let b = 2; break; } if a { break; } } yield; }", []string{"", "", "1", "1", "1 2", "1", "1", ""}},
		{"fn f(a) { let b = fn(c) { a = 9; return c + a; }; emit 5 + b(6); yield; }", []string{"3", "3 f0", "3 f0 5 | 6 3", "9 f0 5 | 6 9", "9 f0"}},
		{"fn f() { emit g(1, g(2, 3)); } fn g(a, b) { return a + b; }", []string{"", "1 | 2 3", "| 1 5"}},
		{"fn f(a) { let t = {}; t[1 + 1] = 1 + g(4); } fn g(a) { return a; }", []string{"3", "3 t0", "3 t0 t0 2 1 | 4"}},
		{"fn f(a) { a and g(4); a + 1 or a; 0 or g(5); } fn g(a) { return a; }", []string{"3", "3 | 4", "3", "3", "3 | 5"}},
		{"fn f() { fn() { return fn(a) { a; }; }()(8); }", []string{"", "|", "| 8"}},
	} {
		l := parsed(t, "module m 1; "+c.funs)
		if got := ticks(checkBehaviour(t, l)); !slices.Equal(got, c.want) {
			t.Errorf("%s: at its statements there is %q, not %q", c.funs, got, c.want)
		}
	}
}

// P16.3: limits

// many repeats a part, in which % is replaced by the number of the repetition.
func many(size int, part string) string {
	var b strings.Builder
	for i := range size {
		b.WriteString(strings.ReplaceAll(part, "%", fmt.Sprint(i)))
	}
	return b.String()
}

func TestLongCode(t *testing.T) {
	long := many(100, "yield; ")
	for _, c := range []struct {
		funs string
		want []string
	}{
		{"fn f() { let i = 0; while i < 2 { " + long + " i = i + 1; } return i; }", nil},
		{"fn f(p) { " + long + "while 1 { p = p - 1; " + long + " if p { continue; } " + long + " break; } return p; }", nil},
		{"fn f() { " + long + long + "if 1 { " + long + " emit 1; } else { " + long + " emit 2; } emit nil or 3; emit nil and 4; }", nil},
		{"fn f() { " + long + long + "if 0 { " + long + " emit 1; } else { " + long + " emit 2; } emit 3 or 4; emit 5 and 6; }", []string{"2", "3", "6", "ends with nil"}},
	} {
		l := parsed(t, "module m 1; "+c.funs)
		checkBehaviour(t, l)
		u := unit(t, l)
		w := newWorld()
		w.ticks = 10000
		got := output(observe(w, &machine{world: w, u: u}, 0, u.Protos[0].Params))
		if c.want != nil && !slices.Equal(got, c.want) {
			t.Errorf("%.40s: the output is %q, not %q", c.funs, got, c.want)
		}
		meant := newWorld()
		meant.ticks = 10000
		if want := output(observe(meant, &walker{world: meant, l: l}, 0, u.Protos[0].Params)); !slices.Equal(got, want) {
			t.Errorf("%.40s: the output is %q, not %q", c.funs, got, want)
		}
	}
}

// TestMostNodes generates functions of as many nodes as a tree may have.
func TestMostNodes(t *testing.T) {
	for _, stmt := range [][]api.Node{
		{{Kind: api.NYield}},
		{{Kind: api.NReturn, Kids: 1}, {Kind: api.NNil}},
		{{Kind: api.NWhile, Kids: 2}, {Kind: api.NState}, {Kind: api.NBlock, Kids: 1}, {Kind: api.NBreak}},
		{{Kind: api.NIf, Kids: 3}, {Kind: api.NTable}, {Kind: api.NBlock}, {Kind: api.NBlock}},
		{{Kind: api.NAssign, Name: "a", Kids: 1}, {Kind: api.NName, Name: "a"}},
		{{Kind: api.NDo, Kids: 1}, {Kind: api.NFn, Kids: 1}, {Kind: api.NBlock}},
	} {
		l := []api.Node{{Kind: api.NModule, Name: "m", N: 1, Kids: 1}, {Kind: api.NFun, Name: "f", Kids: 2}, {Kind: api.NParam, Name: "a"}, {Kind: api.NBlock}}
		size := (api.MaxNodes - len(l)) / len(stmt)
		if stmt[0].Kind == api.NDo {
			size = api.MaxProtos - 1
		}
		l[3].Kids = size
		for range size {
			l = append(l, stmt...)
		}
		unit(t, l)
	}
	// Each node is a nested expression or statement, as deep as a tree may be.
	l := []api.Node{{Kind: api.NModule, Name: "m", N: 1, Kids: 1}, {Kind: api.NFun, Name: "f", Kids: 1}, {Kind: api.NBlock, Kids: 1}, {Kind: api.NReturn, Kids: 1}}
	for range api.MaxDepth - 5 {
		l = append(l, api.Node{Kind: api.NUn, Text: "not", Kids: 1})
	}
	l = append(l, api.Node{Kind: api.NNil})
	checkBehaviour(t, l)
	checkError(t, "a tree that is too deep", slices.Insert(slices.Clone(l), 4, l[4]), api.ErrBig, 0)
}

func TestMostRegisters(t *testing.T) {
	nested := strings.Repeat("g(1, 2, 3, 4, 5, 6, 7, ", 10) + "g(1, 2, 3, 4, 5, 6, 7, 8)" + strings.Repeat(")", 10)
	g := " fn g(a, b, c, d, e, f, h, i) { return a + b + c + d + e + f + h + i; }"
	text := "module m 1; fn f() { " + many(22, "let v% = %;") + "return " + nested + "; }" + g
	l := parsed(t, text)
	if u := unit(t, l); u.Protos[0].Regs != api.MaxRegs {
		t.Errorf("Regs is %d, not %d", u.Protos[0].Regs, api.MaxRegs)
	}
	checkBehaviour(t, l)
	l = parsed(t, strings.Replace(text, "return g(", "let w = 1; return g(", 1))
	checkError(t, "a function that needs too many registers", l, api.ErrBig, 1)
}

func TestMostVariables(t *testing.T) {
	// All variables are captured, through two functions that do not use them.
	all := many(24, "v% + ") + "0"
	l := parsed(t, "module m 1; fn f() { "+many(24, "let v% = %;")+"emit fn() { return fn() { "+many(24, "v% = v% * 2;")+"return "+all+"; }; }()(); return "+all+"; }")
	events := checkBehaviour(t, l)
	u := unit(t, l)
	if u.Protos[0].Regs < 24 || len(u.Protos[1].Caps) != 24 || len(u.Protos[2].Caps) != 24 {
		t.Errorf("the protos are %v", u.Protos)
	}
	if got := output(events); !slices.Equal(got, []string{"552", "ends with 552"}) {
		t.Errorf("the output is %q", got)
	}
	checkError(t, "a variable too many", parsed(t, "module m 1; fn f() { "+many(25, "let v% = %;")+"}"), api.ErrBig, 3+2*24)
}

func TestMostFunctions(t *testing.T) {
	funs := many(32, "fn f%(a) { return fn() { return a + %; }; } ")
	l := parsed(t, "module m 1; "+funs)
	if u := unit(t, l); u.Funs != 32 || len(u.Protos) != 64 {
		t.Errorf("there are %d protos, and Funs is %d", len(u.Protos), u.Funs)
	}
	checkBehaviour(t, l)
	calls := "fn f32() { return " + many(31, "f%(%)() + ") + "0; }"
	l = parsed(t, "module m 1; "+calls+many(31, "fn f%(a) { return fn() { return a + %; }; } "))
	if got := output(checkBehaviour(t, l)); !slices.Equal(got, []string{"has no fuel"}) {
		t.Errorf("the output is %q", got)
	}
	u := unit(t, l)
	w := newWorld()
	w.ticks = 1000
	if got := output(observe(w, &machine{world: w, u: u}, 0, 0)); !slices.Equal(got, []string{"ends with 930"}) {
		t.Errorf("the output is %q", got)
	}
	checkError(t, "a function too many", parsed(t, "module m 1; "+funs+"fn g() { }"), api.ErrBig, 1+32*10)
}

func TestMostUses(t *testing.T) {
	l := parsed(t, "module m 1; "+many(16, "use a.b%/1; ")+"fn f() { "+many(16, "a.b%(%); ")+"}")
	var used []string
	for _, e := range checkBehaviour(t, l) {
		if e, is := strings.CutPrefix(e, "use "); is {
			used = append(used, strings.TrimSuffix(e, " |"))
		}
	}
	var want []string
	for i := range 16 {
		want = append(want, fmt.Sprintf("%d with %d", i, i))
	}
	if !slices.Equal(used, want) {
		t.Errorf("the uses are %q, not %q", used, want)
	}
}

// TestManyCaptures has a function that captures more variables than a unit can express. Nothing in P16.1 rejects it, so its unit is returned, which verify.Check rejects.
func TestManyCaptures(t *testing.T) {
	for _, size := range []int{255, 256} {
		l := parsed(t, "module m 1; fn f() { "+captures(size)+" }")
		u, err, at := gen.Unit(l)
		if err != api.OK || at != 0 {
			t.Fatalf("Unit = %d, %d; want OK, 0", err, at)
		}
		if last := u.Protos[len(u.Protos)-1]; len(last.Caps) != size {
			t.Errorf("the last function has %d captures, not %d", len(last.Caps), size)
		}
		want := api.OK
		if size > 255 {
			want = api.ErrForm
		}
		if err, _, _ := verify.Check(u); err != want {
			t.Errorf("with %d captures verify.Check returns %d, not %d", size, err, want)
		}
	}
}

// captures returns statements with functions in one another, the last of which captures so many variables.
func captures(size int) string {
	var b strings.Builder
	levels := (size + api.MaxVars - 1) / api.MaxVars
	for i := range size {
		fmt.Fprintf(&b, "let v%d = nil;", i)
		if i%api.MaxVars == api.MaxVars-1 || i == size-1 {
			b.WriteString("fn() {")
		}
	}
	return b.String() + many(size, "v%;") + strings.Repeat("};", levels)
}

// R1, R4

func TestAnyNodes(t *testing.T) {
	l := parsed(t, "module m 1; use a.b/1; fn f(p) { while p { let q = fn(x) { return x + p; }; q = \"t\"; q[0] = a.b(f(1)); if q and 1 { break; } } emit spawn p; }")
	for i := range l {
		for kind := -1; kind <= api.NSpawn+1; kind++ {
			for kids := range 5 {
				changed := slices.Clone(l)
				changed[i].Kind, changed[i].Kids = kind, kids-1
				tryUnit(t, changed)
			}
		}
		for _, n := range []api.Node{{}, {Kind: -1 << 63, Kids: -1 << 63, N: -1 << 63}, {Kind: 1<<63 - 1, Kids: 1<<63 - 1, Name: "!", Text: "\xff"}} {
			changed := slices.Clone(l)
			changed[i] = n
			tryUnit(t, changed)
		}
		tryUnit(t, l[i:])
		tryUnit(t, l[:i])
	}
}

// tryUnit checks what Unit returns for any nodes.
func tryUnit(t *testing.T, l []api.Node) {
	t.Helper()
	_, want, wantAt := scope.Check(l)
	if want != api.OK {
		checkError(t, printed(l), l, want, wantAt)
		return
	}
	checkBehaviour(t, l)
}

func TestArgumentIsKept(t *testing.T) {
	l := parsed(t, "module m 1; use a.b/1; fn f(p) { while p { let q = fn(x) { return x + p; }; break; } return a.b(\"t\"); }")
	whole := append(slices.Clone(l), api.Node{Name: "spare"}, api.Node{Name: "spare"})
	before := slices.Clone(whole)
	u, err, _ := gen.Unit(whole[:len(l)])
	if err != api.OK || !slices.Equal(whole, before) {
		t.Errorf("Unit changed its argument, or returned %d", err)
	}
	want, _, _ := gen.Unit(l)
	clear(whole)
	if !reflect.DeepEqual(u, want) {
		t.Errorf("the unit changes with the argument")
	}
}

func TestResultsShareNothing(t *testing.T) {
	l := parsed(t, "module m 1; use a.b/1; use a.c/1; fn f(p) { return fn() { return fn() { return p + 2; } + p + 2; } + 2; } fn g(p) { return fn() { p = 1; } + 2; }")
	u, v := unit(t, l), unit(t, l)
	for i := range u.Protos {
		p := &u.Protos[i]
		for j := range p.Code[:cap(p.Code)] {
			p.Code[:cap(p.Code)][j] = api.Inst{Op: i}
		}
		for j := range p.Consts[:cap(p.Consts)] {
			p.Consts[:cap(p.Consts)][j] = api.Value{Kind: i}
		}
		for j := range p.Caps[:cap(p.Caps)] {
			p.Caps[:cap(p.Caps)][j] = api.Cap{Index: i}
		}
	}
	for i, p := range u.Protos {
		other := func(n int) bool { return n != i }
		if slices.ContainsFunc(p.Code, func(x api.Inst) bool { return other(x.Op) }) ||
			slices.ContainsFunc(p.Consts, func(v api.Value) bool { return other(v.Kind) }) ||
			slices.ContainsFunc(p.Caps, func(c api.Cap) bool { return other(c.Index) }) {
			t.Errorf("proto %d shares memory with another one", i)
		}
	}
	clear(u.Uses[:cap(u.Uses)])
	clear(u.Protos[:cap(u.Protos)])
	checkUnit(t, l, v)
	if again, _, _ := gen.Unit(l); !reflect.DeepEqual(v, again) {
		t.Errorf("two units share memory")
	}
}
