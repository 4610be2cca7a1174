package scope_test

import (
	"fmt"
	"slices"
	"strings"
	"testing"

	"chrysalis/api"
	"chrysalis/parse"
	"chrysalis/scope"
)

func nodes(t *testing.T, text string) []api.Node {
	t.Helper()
	l, err, at := parse.Text(text)
	if err != api.OK {
		t.Fatalf("parse.Text(%q) = %d, %d", text, err, at)
	}
	return l
}

// info returns what Check returns for a text that is right.
func info(t *testing.T, text string) scope.Info {
	t.Helper()
	got, err, at := scope.Check(nodes(t, text))
	if err != api.OK || at != 0 {
		t.Fatalf("Check of %q = %d, %d; want OK, 0", text, err, at)
	}
	return got
}

// module is what the texts of most tests begin with.
const module = "module m 1; use x.y/0; use x.z/2; "

// refs returns what the names in the text refer to, in the order of the nodes: l, u, o or e (for RLocal, RUp, ROwn, RUse) with a number, or ? for a node that refers to nothing although it has a name that could.
func refs(l []api.Node, got scope.Info) string {
	var parts []string
	for i, r := range got.Refs {
		switch l[i].Kind {
		case api.NName, api.NAssign, api.NOuter:
			parts = append(parts, fmt.Sprintf("%c%d", "?luoe"[r.Kind], r.Index))
		default:
			if r != (api.Ref{}) {
				parts = append(parts, fmt.Sprintf("node %d: %v", i, r))
			}
		}
	}
	return strings.Join(parts, " ")
}

// checkRefs compares what the names in functions refer to with a text as refs returns it.
func checkRefs(t *testing.T, functions, want string) {
	t.Helper()
	l := nodes(t, module+functions)
	got := info(t, module+functions)
	if len(got.Refs) != len(l) {
		t.Errorf("%q: %d Refs for %d nodes", functions, len(got.Refs), len(l))
	} else if s := refs(l, got); s != want {
		t.Errorf("%q: refs %q; want %q", functions, s, want)
	}
}

// captures returns, for each function, the numbers of its boxed variables, and its captures: v (a variable) or c (a capture) with a number.
func captures(got scope.Info) string {
	var parts []string
	for _, f := range got.Funs {
		s := ""
		for i, boxed := range f.Boxed {
			if boxed {
				s += fmt.Sprint(i)
			}
		}
		s += ":"
		for _, c := range f.Caps {
			kind := "v"
			if c.Up {
				kind = "c"
			}
			s += kind + fmt.Sprint(c.Index)
		}
		parts = append(parts, s)
	}
	return strings.Join(parts, " ")
}

func checkCaptures(t *testing.T, functions, want string) {
	t.Helper()
	got := info(t, module+functions)
	if s := captures(got); s != want {
		t.Errorf("%q: captures %q; want %q", functions, s, want)
	}
	for i, f := range got.Funs {
		if len(f.Boxed) != f.Vars {
			t.Errorf("%q: function %d has %d variables, and Boxed for %d", functions, i, f.Vars, len(f.Boxed))
		}
	}
}

// nth returns the node with the number n among those of that kind.
func nth(l []api.Node, kind, n int) int {
	for i := range l {
		if l[i].Kind != kind {
			continue
		}
		if n == 0 {
			return i
		}
		n--
	}
	return -1
}

// checkError compares what Check returns for a text with an error at the node with that number among those of that kind.
func checkError(t *testing.T, text string, want api.Errno, kind, n int) {
	t.Helper()
	l := nodes(t, text)
	checkTree(t, text, l, want, nth(l, kind, n))
}

// checkTree compares what Check returns with an error.
func checkTree(t *testing.T, what string, l []api.Node, want api.Errno, wantAt int) {
	t.Helper()
	got, err, at := scope.Check(l)
	if err != want || at != wantAt {
		t.Errorf("Check of %q = %d, %d; want %d, %d", what, err, at, want, wantAt)
	}
	if err != api.OK && (got.Funs != nil || got.Refs != nil || got.Uses != nil || got.Top != 0) {
		t.Errorf("Check of %q returns %v with an error", what, got)
	}
}

// Example of the chapter

func TestExample(t *testing.T) {
	got := info(t, "module m 1; fn f(a) { let b = fn() { return a; }; return b; }")
	// 0 NModule, 1 NFun, 2 NParam, 3 NBlock, 4 NLet, 5 NFn, 6 NBlock, 7 NReturn, 8 NName a, 9 NReturn, 10 NName b
	want := scope.Info{
		Funs: []api.Fun{
			{Node: 1, Parent: -1, Params: 1, Vars: 2, Boxed: []bool{true, false}, Need: 3},
			{Node: 5, Parent: 0, Caps: []api.Cap{{Index: 0}}, Need: 1},
		},
		Refs: make([]api.Ref, 11),
		Top:  1,
	}
	want.Refs[8] = api.Ref{Kind: api.RUp, Index: 0}
	want.Refs[10] = api.Ref{Kind: api.RLocal, Index: 1}
	checkInfo(t, "the example", got, want)
	checkError(t, "module m 1; fn f() { return x; }", api.ErrScope, api.NName, 0)
}

// checkInfo compares what Check returned with what it should return.
func checkInfo(t *testing.T, what string, got, want scope.Info) {
	t.Helper()
	same := slices.EqualFunc(got.Funs, want.Funs, func(a, b api.Fun) bool {
		return a.Node == b.Node && a.Parent == b.Parent && a.Params == b.Params && a.Vars == b.Vars && a.Need == b.Need &&
			slices.Equal(a.Boxed, b.Boxed) && slices.Equal(a.Caps, b.Caps)
	})
	if !same || !slices.Equal(got.Refs, want.Refs) || !slices.Equal(got.Uses, want.Uses) || got.Top != want.Top {
		t.Errorf("Check of %s = %+v; want %+v", what, got, want)
	}
}

// Words: functions, uses

func TestModules(t *testing.T) {
	checkInfo(t, "an empty module", info(t, "module m 1;"), scope.Info{Refs: make([]api.Ref, 1)})
	got := info(t, "module m 1; use a.b/0; use a.c/8; use m.b/3; fn f(a, b) {} fn b() {}")
	checkInfo(t, "a module with uses", got, scope.Info{
		Funs: []api.Fun{
			{Node: 4, Parent: -1, Params: 2, Vars: 2, Boxed: []bool{false, false}, Need: 2},
			{Node: 8, Parent: -1},
		},
		Refs: make([]api.Ref, 10),
		Uses: []api.Use{{Module: "a", Name: "b"}, {Module: "a", Name: "c", Params: 8}, {Module: "m", Name: "b", Params: 3}},
		Top:  2,
	})
}

// funs returns the number of the parent, the parameters and the variables of each function, and its node as a number among those of its kind.
func funs(l []api.Node, got scope.Info) string {
	var parts []string
	for i, f := range got.Funs {
		kind := api.NFn
		if i < got.Top {
			kind = api.NFun
		}
		n := 0
		for nth(l, kind, n) != f.Node {
			n++
		}
		parts = append(parts, fmt.Sprintf("%d:%d:%d/%d", n, f.Parent, f.Params, f.Vars))
	}
	return strings.Join(parts, " ")
}

func TestFunctions(t *testing.T) {
	for _, c := range []struct {
		functions, want string
		top             int
	}{
		{"", "", 0},
		{"fn f() {}", "0:-1:0/0", 1},
		{"fn f(a) {} fn g(a, b, c, d, e, f, g, h) {}", "0:-1:1/1 1:-1:8/8", 2},
		// The functions of the module are numbered first.
		{"fn f() { fn() {}; } fn g() { fn(a) {}; fn(a, b) {}; }", "0:-1:0/0 1:-1:0/0 0:0:0/0 1:1:1/1 2:1:2/2", 2},
		// One within another has the greater number.
		{"fn f() { fn(a) { fn(b, c) { fn() {}; }; fn() {}; }; fn() {}; }", "0:-1:0/0 0:0:1/1 1:1:2/2 2:2:0/0 3:1:0/0 4:0:0/0", 1},
		{"fn f() { let a = fn() { let b = fn() {}; }; let c = fn(d) {}; }", "0:-1:0/2 0:0:0/1 1:1:0/0 2:0:1/1", 1},
		// Within expressions and statements of all kinds.
		{"fn f(a) { a = fn() {}; a[fn() {}] = fn() {}; if fn() {} { fn() {}; } else { fn() {}; } }", "0:-1:1/1 0:0:0/0 1:0:0/0 2:0:0/0 3:0:0/0 4:0:0/0 5:0:0/0", 1},
		{"fn f(a) { while fn() {} { fn() {}; } put fn() {}; emit spawn fn() {}; return - fn() {}; }", "0:-1:1/1 0:0:0/0 1:0:0/0 2:0:0/0 3:0:0/0 4:0:0/0", 1},
		{"fn f(a) { fn() {}(fn() {}, f(fn() {})); x.z(fn() {}, fn() {} + fn() {}); }", "0:-1:1/1 0:0:0/0 1:0:0/0 2:0:0/0 3:0:0/0 4:0:0/0 5:0:0/0", 1},
		// The variables of one function are not those of another.
		{"fn f(a) { let b = 1; fn(c) { let d = 1; let e = 2; }; if a { let c = 1; } let d = 1; }", "0:-1:1/4 0:0:1/3", 1},
	} {
		got := info(t, module+c.functions)
		if s := funs(nodes(t, module+c.functions), got); s != c.want || got.Top != c.top {
			t.Errorf("%q: functions %q, Top %d; want %q, %d", c.functions, s, got.Top, c.want, c.top)
		}
	}
}

// Words: what a name refers to

func TestRefs(t *testing.T) {
	for _, c := range []struct{ functions, want string }{
		{"fn f(a, b) { b; a; b; }", "l1 l0 l1"},
		{"fn f(a) { let b = a; let c = b; c; a; }", "l0 l1 l2 l0"},
		{"fn f(a, b) { b = 1; a = b; }", "l1 l0 l1"},
		{"fn f(a) { a[a] = a; if a { a; } else { a; } while a { a; } put a; emit a; return a; }", "l0 l0 l0 l0 l0 l0 l0 l0 l0 l0 l0"},
		{"fn f(a) { - a; not a; len a; spawn a; a + a; a and a; a or a; a[a]; a(a, a); f(a); x.z(a, a); }", strings.Repeat("l0 ", 15) + "o0 l0 e1 l0 l0"},
		// Numbers are not used again after a block.
		{"fn f(a) { if a { let b = 1; b; } else { let b = 2; b; } while a { let b = 3; b; } let b = 4; b; }", "l0 l1 l2 l0 l3 l4"},
		{"fn f(a) { if a { let b = a; if b { let c = b; c; } b; } a; }", "l0 l0 l1 l1 l2 l1 l0"},
		// Functions of the module: earlier ones, itself, and later ones.
		{"fn f() { f(); g(1); h(1, 2); } fn g(a) { h(a, 1); } fn h(a, b) { f(); }", "o0 o1 o2 o2 l0 o0"},
		{"fn f() { f(); f()(); (f()); f()[f()]; fn() { return f(); }; }", "o0 o0 o0 o0 o0 o0"},
		// A visible variable hides a function, in a call and elsewhere.
		{"fn f(g) { g(1); g(); g; } fn g(a) { g(a); }", "l0 l0 l0 o1 l0"},
		{"fn f() { f(); let f = 1; f(); fn() { f(); }; } fn h() { f(); }", "o0 l0 u0 o0"},
		{"fn f(a) { if a { let f = a; f(a); } f(a); }", "l0 l0 l1 l0 o0 l0"},
		{"fn f() { let f = f(); f(); }", "o0 l0"},
		{"fn f() { let g = fn(f) { f(); }; f(); g(); }", "l0 o0 l0"},
		// Uses, also those with the name of a variable or of a function.
		{"fn f(x, y) { x.y(); x.z(x, y); x.y()(); fn() { x.y(); }; }", "e0 e1 l0 l1 e0 e0"},
		{"fn x() { x.y(); x(); } fn y() { x.y(); y(); }", "e0 o0 e0 o1"},
		// Captures.
		{"fn f(a, b) { fn() { b; a; b; }; fn() { a; }; }", "u0 u1 u0 u0"},
		{"fn f(a) { fn(b) { a; b; let c = a; c; a = c; fn() { c; a; b; }; }; a; }", "u0 l0 u0 l1 u0 l1 u0 u1 u2 l0"},
		{"fn f(a, b) { fn() { fn() { b; a; }; a; b; }; }", "u0 u1 u1 u0"},
		{"fn f(a) { fn() { a(); a(1); f(1); }; }", "u0 u0 o0"},
	} {
		checkRefs(t, c.functions, c.want)
	}
}

func TestUses(t *testing.T) {
	text := "module m 1; use b.f/1; use a.f/1; use a.g/0; use m.h/2; fn h(a, b) { m.h(a.f(1), a.g()); b.f(h(1, 2)); }"
	if s, want := refs(nodes(t, text), info(t, text)), "e3 e1 e2 e0 o0"; s != want {
		t.Errorf("%q: refs %q; want %q", text, s, want)
	}
	text = "module m 1; use m.f/0; use f.f/8; fn f(m) { m.f(); f.f(m, m, m, m, m, m, m, m); f(m); m(); }"
	if s, want := refs(nodes(t, text), info(t, text)), "e0 e1 l0 l0 l0 l0 l0 l0 l0 l0 o0 l0 l0"; s != want {
		t.Errorf("%q: refs %q; want %q", text, s, want)
	}
}

// Words: captures

func TestCaptures(t *testing.T) {
	for _, c := range []struct{ functions, want string }{
		{"fn f(a) { fn() {}; a; }", ": :"},
		{"fn f(a) { fn() { a; }; }", "0: :v0"},
		{"fn f(a) { fn() { a = 1; }; }", "0: :v0"},
		{"fn f(a, b, c) { fn() { c; b; c; b; }; }", "12: :v2v1"},
		// Each function captures a variable for itself, and has its own order.
		{"fn f(a, b) { fn() { a; b; }; fn() { b; a; }; fn() { b; }; }", "01: :v0v1 :v1v0 :v1"},
		// Functions in between capture the variable, too, at that moment.
		{"fn f(a) { fn() { fn() { a; }; }; }", "0: :v0 :c0"},
		{"fn f(a) { fn() { fn() { fn() { a; }; }; }; }", "0: :v0 :c0 :c0"},
		{"fn f(a, b) { fn() { a; fn() { b; a; }; }; }", "01: :v0v1 :c1c0"},
		{"fn f(a, b) { fn() { fn() { b; a; }; a; b; }; }", "01: :v1v0 :c0c1"},
		{"fn f(a, b, c) { fn() { c; fn() { fn() { a; c; }; b; }; }; }", "012: :v2v0v1 :c1c0c2 :c0c1"},
		// Two functions within one share its captures.
		{"fn f(a, b) { fn() { fn() { a; }; fn() { b; a; }; }; }", "01: :v0v1 :c0 :c1c0"},
		// A variable and a capture with the same number.
		{"fn f(a) { fn(b) { fn() { a; b; }; }; }", "0: 0:v0 :c0v0"},
		{"fn f(a) { fn(b) { fn() { b; a; }; }; }", "0: 0:v0 :v0c0"},
		{"fn f(a) { fn(b) { fn(c) { fn() { c; b; a; c; b; a; }; }; }; }", "0: 0:v0 0:v0c0 :v0c0c1"},
		{"fn f(a, b) { fn(c, d) { fn() { d; b; c; a; }; }; }", "01: 01:v1v0 :v1c0v0c1"},
		// An NAssign is visited before its expression, an NLet after it.
		{"fn f(a, b) { fn() { a = b; }; }", "01: :v0v1"},
		{"fn f(a, b) { fn() { b = a; }; }", "01: :v1v0"},
		{"fn f(a, b) { fn() { a[b] = b; }; }", "01: :v0v1"},
		{"fn f(a) { fn() { let b = a; fn() { b; }; }; }", "0: 0:v0 :v0"},
		{"fn f(a, b) { fn() { a(b); }; fn() { b(a); }; fn() { x.z(b, a); }; }", "01: :v0v1 :v1v0 :v1v0"},
		// Variables of blocks, some of which have ended.
		{"fn f(a) { if a { let b = 1; fn() { b; }; } let b = 2; fn() { b; }; }", "12: :v1 :v2"},
		{"fn f(a) { while a { let b = 1; if b { let c = 2; fn() { c; b; }; } } }", "12: :v2v1"},
		// Neither functions of the module nor uses are captured.
		{"fn f() { fn() { f(); x.y(); }; }", ": :"},
		// A function of the module captures nothing.
		{"fn f(a) { a; } fn g(a) { fn() { a; }; } fn h(a) { a; }", ": 0: : :v0"},
		// Within an expression of an NLet whose name is declared after it.
		{"fn f() { let a = fn(a) { return fn() { return a; }; }; fn() { return a; }; }", "0: 0: :v0 :v0"},
	} {
		checkCaptures(t, c.functions, c.want)
	}
}

// Words: visible variables

func TestVisibleVariables(t *testing.T) {
	for _, c := range []struct {
		functions string
		want      api.Errno
		kind, n   int
	}{
		// From the declaration on.
		{"fn f() { a; let a = 1; }", api.ErrScope, api.NName, 0},
		{"fn f() { let a = a; }", api.ErrScope, api.NName, 0},
		{"fn f() { let a = fn() { return a; }; }", api.ErrScope, api.NName, 0},
		{"fn f() { fn() { return a; }; let a = 1; }", api.ErrScope, api.NName, 0},
		{"fn f() { let a = 1; let b = fn() { return a; }; b; a; }", api.OK, 0, 0},
		{"fn f() { let a = fn() { let a = 1; a; }; a; }", api.OK, 0, 0},
		{"fn f() { let a = fn(a) { a; }; a; }", api.OK, 0, 0},
		{"fn f() { let a = fn() { let b = a; }; }", api.ErrScope, api.NName, 0},
		// To the end of the block.
		{"fn f() { if 1 { let a = 1; } a; }", api.ErrScope, api.NName, 0},
		{"fn f() { if 1 { let a = 1; } else { a; } }", api.ErrScope, api.NName, 0},
		{"fn f() { while 1 { let a = 1; } a; }", api.ErrScope, api.NName, 0},
		{"fn f() { while a { let a = 1; } }", api.ErrScope, api.NName, 0},
		{"fn f() { if 1 { let a = 1; if 1 { a; } else { a; } while a { a; fn() { a; }; } a; } }", api.OK, 0, 0},
		{"fn f() { if 1 { if 1 { let a = 1; } a; } }", api.ErrScope, api.NName, 0},
		{"fn f() { fn() { let a = 1; }; a; }", api.ErrScope, api.NName, 0},
		{"fn f() { fn() { let a = 1; }(a); }", api.ErrScope, api.NName, 0},
		{"fn f() { let a = 1; } fn g() { a; }", api.ErrScope, api.NName, 0},
		// A parameter in the whole function.
		{"fn f(a) { if a { a; fn() { a; }; } a; }", api.OK, 0, 0},
		{"fn f(a) {} fn g() { a; }", api.ErrScope, api.NName, 0},
		{"fn f() { fn(a) {}; a; }", api.ErrScope, api.NName, 0},
		{"fn f() { fn(a) {}(a); }", api.ErrScope, api.NName, 0},
		{"fn f() { fn(a) {}; fn() { a; }; }", api.ErrScope, api.NName, 0},
		// The same name may be declared again when it is not visible any more.
		{"fn f() { if 1 { let a = 1; } else { let a = 2; } while 1 { let a = 3; } let a = 4; }", api.OK, 0, 0},
		{"fn f() { fn(a) {}; fn(a) {}; fn() { let a = 1; }; let a = 2; }", api.OK, 0, 0},
		{"fn f(a) {} fn g(a) {} fn h() { let a = 1; }", api.OK, 0, 0},
	} {
		if c.want == api.OK {
			info(t, module+c.functions)
		} else {
			checkError(t, module+c.functions, c.want, c.kind, c.n)
		}
	}
}

// Words: the height of an expression

func TestHeights(t *testing.T) {
	for _, c := range []struct {
		expr string
		want int
	}{
		{"nil", 1}, {"5", 1}, {"\"ab\"", 1}, {"a", 1}, {"{}", 1}, {"state", 1},
		{"fn() {}", 1},
		{"fn(p, q, r) { let s = 1 + (2 + (3 + 4)); }", 1},
		{"- a", 1}, {"not a", 1}, {"len a", 1}, {"spawn a", 1},
		{"- (a + a)", 2}, {"not (a + a)", 2}, {"len (a + a)", 2}, {"spawn (a + a)", 2}, {"spawn spawn - - (a + (a + a))", 3},
		// Operators.
		{"a + a", 2}, {"a - a", 2}, {"a * a", 2}, {"a / a", 2}, {"a % a", 2}, {"a .. a", 2}, {"a == a", 2}, {"a != a", 2}, {"a < a", 2}, {"a <= a", 2},
		{"a + a + a + a", 2}, {"a + (a + a)", 3}, {"(a + (a + a)) + a", 3}, {"(a + (a + a)) + (a + a)", 3}, {"(a + a) + (a + (a + a))", 4},
		{"a and a", 1}, {"a or a", 1}, {"a and (a and a)", 1}, {"a or (a or a)", 1},
		{"(a + a) and a", 2}, {"a and (a + a)", 2}, {"(a + a) or a", 2}, {"a or (a + a)", 2}, {"(a + (a + a)) or (a + a)", 3},
		{"a + (a and a)", 2}, {"(a or a) + a", 2},
		{"a[a]", 2}, {"a[a][a]", 2}, {"a[a[a]]", 3}, {"a[a[a]][a]", 3}, {"a[a[a]][a[a]]", 3},
		// Calls of functions of the module, and of other modules.
		{"g()", 1}, {"f(a)", 1}, {"f(a + a)", 2}, {"h(a, a)", 2}, {"h(a + (a + a), a)", 3}, {"h(a, a + a)", 3}, {"h(a + a, a + a)", 3},
		{"h(f(f(f(a))), g())", 2}, {"h(g(), h(g(), h(g(), g())))", 4}, {"i(1, 2, 3, 4, 5, 6, 7, 8)", 8}, {"i(1, 2, 3, 4, 5, 6, 7, 8 + a)", 9},
		{"i(1, 2, 3, a + (a + (a + (a + a))), 5, 6, 7, 8)", 8}, {"i(1, 2, 3, 4, 5, 6, a + (a + a), 8)", 9},
		{"x.y()", 1}, {"x.z(a, a)", 2}, {"x.z(a + (a + a), a)", 3}, {"x.z(a, a + a)", 3},
		{"x.w(1, 2, 3, 4, 5, 6, 7, 8)", 8}, {"x.w(1, 2, 3, 4, 5, 6, 7, a + a)", 9},
		// Other calls.
		{"a()", 1}, {"a(a)", 2}, {"a(a, a)", 3}, {"a(a + a, a)", 3}, {"a(a, a + a)", 4}, {"a(a + (a + a), a)", 4},
		{"a(1, 2, 3, 4, 5, 6, 7, 8)", 9}, {"(a + a)()", 2}, {"(a + a)(a)", 2}, {"(a + (a + (a + a)))(a, a)", 4}, {"a()()()", 1}, {"a(a)(a)", 2},
		{"g()()", 1}, {"g()(a)", 2}, {"h(a, a)(a)", 2}, {"h(a, a)(a, a)", 3}, {"x.y()(a)", 2}, {"fn(p) {}(a)", 2}, {"a[a](a)", 2}, {"spawn a(a)", 2},
		// A variable with the name of a function.
		{"k()", 1}, {"k(a)", 2}, {"k(a, a)", 3},
	} {
		text := "module m 1; use x.y/0; use x.z/2; use x.w/8; fn f(a) {} fn g() {} fn h(a, b) {} fn i(a, b, c, d, e, f, g, h) {} fn j(a) { %s } fn k(a) {}"
		for _, s := range []struct {
			body string
			vars int
		}{
			{"let k = 0; return %s;", 2},
			{"let k = 0; %s;", 2},
			{"let k = 0; if a { let l = 1; let m = 2; emit %s; }", 4},
		} {
			body := fmt.Sprintf(s.body, c.expr)
			got := info(t, fmt.Sprintf(text, body)).Funs[4]
			if want := s.vars + c.want; got.Need != want {
				t.Errorf("%q: Need %d; want %d", body, got.Need, want)
			}
		}
	}
}

// Words: needs

func TestNeeds(t *testing.T) {
	const tall = "1 + (2 + (3 + 4))" // 4
	for _, c := range []struct {
		function string
		want     int
	}{
		{"fn f() {}", 0},
		{"fn f(a) {}", 1},
		{"fn f(a, b, c, d, e, f, g, h) {}", 8},
		{"fn f(a, b) { yield; }", 2},
		{"fn f(a, b) { while 1 { break; continue; yield; } }", 3},
		{"fn f(a, b) { a; }", 3},
		// Statements of all kinds.
		{"fn f(a) { let b = " + tall + "; }", 5},
		{"fn f(a) { a = " + tall + "; }", 5},
		{"fn f(a) { return " + tall + "; }", 5},
		{"fn f(a) { put " + tall + "; }", 5},
		{"fn f(a) { emit " + tall + "; }", 5},
		{"fn f(a) { " + tall + "; }", 5},
		{"fn f(a) { if " + tall + " {} }", 5},
		{"fn f(a) { if " + tall + " {} else {} }", 5},
		{"fn f(a) { while " + tall + " {} }", 5},
		{"fn f(a) { a[1] = 2; }", 4},
		{"fn f(a) { (" + tall + ")[1] = 2; }", 5},
		{"fn f(a) { a[" + tall + "] = 2; }", 6},
		{"fn f(a) { a[1] = " + tall + "; }", 7},
		// Only the condition counts, not what the blocks contain with the variables before them.
		{"fn f(a) { if a { let b = 1; let c = 2; } }", 3},
		{"fn f(a) { if a { let b = 1; } else { let b = 1; let c = 2; " + tall + "; } }", 7},
		{"fn f(a) { while a { let b = 1; " + tall + "; } }", 6},
		// What is visible before a statement.
		{"fn f() { let a = 1; let b = 2; let c = 3; }", 3},
		{"fn f() { let a = " + tall + "; let b = 2; let c = 3; }", 4},
		{"fn f() { let a = 1; let b = " + tall + "; let c = 3; }", 5},
		{"fn f() { let a = 1; let b = 2; let c = " + tall + "; }", 6},
		{"fn f() { let a = 1; yield; let b = 2; a; b; }", 3},
		// Variables of blocks that have ended do not count.
		{"fn f() { if 1 { let a = 1; let b = 2; } let c = 3; }", 2},
		{"fn f() { if 1 { let a = 1; let b = 2; } else { let a = 1; let b = 2; let c = 3; } let c = 3; }", 3},
		{"fn f() { while 1 { let a = 1; } " + tall + "; }", 4},
		{"fn f() { if 1 { if 1 { let a = 1; } let b = 1; } let c = " + tall + "; }", 4},
		// Neither variables nor statements of other functions count.
		{"fn f(a) { fn(b, c) { let d = " + tall + "; }; a; }", 2},
		{"fn f(a) { let b = fn(c, d, e, g, h) {}; }", 2},
	} {
		if got := info(t, module+c.function).Funs[0].Need; got != c.want {
			t.Errorf("%q: Need %d; want %d", c.function, got, c.want)
		}
	}
	got := info(t, module+"fn f(a, b, c) { let d = 1; return fn(e) { let g = a + (b + (c + d)); return fn() { return e; }; }; } fn g() {}")
	needs := []int{}
	for _, f := range got.Funs {
		needs = append(needs, f.Need)
	}
	if want := []int{5, 0, 5, 1}; !slices.Equal(needs, want) {
		t.Errorf("Needs %v; want %v", needs, want)
	}
}

// P12.1: errors of tree.Check

func TestErrorsOfTrees(t *testing.T) {
	l := nodes(t, "module m 1; use a.b/0; use a.b/0; fn f(a) { return x; }")
	checkTree(t, "a right tree", l, api.ErrTwice, 2)
	change := func(i int, change func(n *api.Node)) []api.Node {
		c := slices.Clone(l)
		change(&c[i])
		return c
	}
	for what, c := range map[string]struct {
		l    []api.Node
		want api.Errno
		at   int
	}{
		"no nodes":       {nil, api.ErrShort, 0},
		"an empty list":  {[]api.Node{}, api.ErrShort, 0},
		"not all nodes":  {l[:len(l)-1], api.ErrShort, 0},
		"more nodes":     {append(slices.Clone(l), api.Node{Kind: api.NNil}), api.ErrShort, 0},
		"many nodes":     {make([]api.Node, api.MaxNodes+1), api.ErrBig, 0},
		"no module":      {l[3:], api.ErrForm, 0},
		"no kind":        {change(5, func(n *api.Node) { n.Kind = 0 }), api.ErrForm, 3},
		"a false name":   {change(7, func(n *api.Node) { n.Name = "X" }), api.ErrForm, 7},
		"a false number": {change(1, func(n *api.Node) { n.N = 9 }), api.ErrForm, 1},
		"no children":    {change(6, func(n *api.Node) { n.Kids = -1 }), api.ErrShort, 0},
	} {
		checkTree(t, what, c.l, c.want, c.at)
	}
	deep := nodes(t, "module m 1; fn f() { return "+strings.Repeat("not ", api.MaxDepth-5)+"1; }")
	if _, err, at := scope.Check(deep); err != api.OK || at != 0 {
		t.Errorf("Check of the deepest tree = %d, %d", err, at)
	}
	deeper := slices.Insert(slices.Clone(deep), 4, deep[4])
	checkTree(t, "a tree that is too deep", deeper, api.ErrBig, 0)
}

// P12.1: errors of uses and functions

func uses(n int) string {
	s := ""
	for i := range n {
		s += fmt.Sprintf("use m%d.f%d/%d; ", i/3, i%3, i%9)
	}
	return s
}

func functions(n int) string {
	s := ""
	for i := range n {
		s += fmt.Sprintf("fn f%d() {} ", i)
	}
	return s
}

func TestErrorsOfUsesAndFunctions(t *testing.T) {
	got := info(t, "module m 1; "+uses(16)+functions(32))
	if len(got.Uses) != 16 || got.Uses[15] != (api.Use{Module: "m5", Name: "f0", Params: 6}) || len(got.Funs) != 32 || got.Top != 32 {
		t.Errorf("Check with 16 uses and 32 functions = %v", got)
	}
	for _, c := range []struct {
		text    string
		want    api.Errno
		kind, n int
	}{
		{uses(17), api.ErrBig, api.NUse, 16},
		{uses(30) + functions(40), api.ErrBig, api.NUse, 16},
		{functions(33), api.ErrBig, api.NFun, 32},
		{uses(16) + functions(50), api.ErrBig, api.NFun, 32},
		{"use a.b/1; use a.b/1;", api.ErrTwice, api.NUse, 1},
		{"use a.b/1; use a.c/1; use b.b/1; use a.b/2; use a.b/1;", api.ErrTwice, api.NUse, 3},
		{"fn f() {} fn f() {}", api.ErrTwice, api.NFun, 1},
		{"fn f() {} fn g() {} fn f(a) {} fn f() {}", api.ErrTwice, api.NFun, 2},
		// The limit comes first at the same part, and otherwise the first part.
		{uses(16) + "use m0.f0/0;", api.ErrBig, api.NUse, 16},
		{uses(16) + "use n.f/0; use n.f/0;", api.ErrBig, api.NUse, 16},
		{uses(15) + "use m0.f0/0; use n.f/0;", api.ErrTwice, api.NUse, 15},
		{"use m0.f0/0; " + uses(16), api.ErrTwice, api.NUse, 1},
		{functions(32) + "fn f0() {}", api.ErrBig, api.NFun, 32},
		{functions(31) + "fn f0() {} fn g() {}", api.ErrTwice, api.NFun, 31},
		{"use a.b/1; use a.b/2; fn f() {} fn f() {}", api.ErrTwice, api.NUse, 1},
		{uses(17) + "fn f() {} fn f() {}", api.ErrBig, api.NUse, 16},
		// Before all errors within functions.
		{"fn f(a, a) { x; } fn f() {}", api.ErrTwice, api.NFun, 1},
		{"fn f() { x; } " + functions(33), api.ErrBig, api.NFun, 32},
		{uses(17) + "fn f() { x; }", api.ErrBig, api.NUse, 16},
		{"use a.b/1; use a.b/1; fn f() { x; }", api.ErrTwice, api.NUse, 1},
	} {
		checkError(t, "module m 1; "+c.text, c.want, c.kind, c.n)
	}
	// Uses and functions with names in common are different.
	info(t, "module m 1; use a.b/1; use b.a/1; use a.a/1; use b.b/1; fn a() {} fn b() {} fn m() {}")
}

// P12.1: errors of nodes

func TestDeclarationsOfVisibleNames(t *testing.T) {
	for _, c := range []struct {
		functions string
		kind, n   int
	}{
		{"fn f(a, a) {}", api.NParam, 1},
		{"fn f(a, b, c, b, a) {}", api.NParam, 3},
		{"fn f(a) { let a = 1; }", api.NLet, 0},
		{"fn f(a) { let a = a; }", api.NLet, 0},
		{"fn f() { let a = 1; let a = 2; }", api.NLet, 1},
		{"fn f() { let a = 1; if a { let b = 1; let a = 2; } }", api.NLet, 2},
		{"fn f() { let a = 1; if a {} else { let a = 2; } }", api.NLet, 1},
		{"fn f() { let a = 1; while a { let a = 2; } }", api.NLet, 1},
		{"fn f(a) { fn(a) {}; }", api.NParam, 1},
		{"fn f(a) { fn() { let a = 1; }; }", api.NLet, 0},
		{"fn f() { let a = 1; fn() { fn(b, a) {}; }; }", api.NParam, 1},
		{"fn f(a) { let b = fn(c) { if c { fn() { while c { let a = 1; } }; } }; }", api.NLet, 1},
		{"fn f() { fn(a, a) {}; }", api.NParam, 1},
		// The NLet is visited after its expression.
		{"fn f() { let a = fn() { let b = 1; let b = 2; }; let a = 1; }", api.NLet, 2},
		{"fn f(a) { let a = fn(a) {}; }", api.NParam, 1},
	} {
		checkError(t, module+c.functions, api.ErrTwice, c.kind, c.n)
	}
}

// lets returns declarations of variables with the numbers from first up to the limit.
func lets(first, limit int) string {
	s := ""
	for i := first; i < limit; i++ {
		s += fmt.Sprintf("let v%d = %d; ", i, i)
	}
	return s
}

func TestNumberOfVariables(t *testing.T) {
	for _, body := range []string{
		"fn f() { " + lets(0, 24) + "}",
		"fn f(a, b, c, d, e, f, g, h) { " + lets(8, 24) + "}",
		"fn f() { " + lets(0, 20) + "if 1 { let a = 1; } else { let a = 1; } while 1 { let a = 1; } let a = 1; }",
		"fn f() { " + lets(0, 23) + "let a = fn(b, c) { " + lets(30, 52) + "}; }",
		"fn f() { fn() { " + lets(0, 24) + "}; fn() { " + lets(0, 24) + "}; " + lets(0, 24) + "} fn g() { " + lets(0, 24) + "}",
	} {
		info(t, module+body)
	}
	got := info(t, module+"fn f(a, b) { "+lets(2, 23)+"if 1 { let x = 1; fn() { x; v22; b; }; } }")
	if f := got.Funs[0]; f.Vars != 24 || !slices.Equal(got.Funs[1].Caps, []api.Cap{{Index: 23}, {Index: 22}, {Index: 1}}) {
		t.Errorf("a function with 24 variables: %v", got)
	}
	for _, c := range []struct {
		functions string
		want      api.Errno
		kind, n   int
	}{
		{"fn f() { " + lets(0, 25) + "}", api.ErrBig, api.NLet, 24},
		{"fn f() { " + lets(0, 30) + "}", api.ErrBig, api.NLet, 24},
		{"fn f(a, b, c, d, e, f, g, h) { " + lets(0, 17) + "}", api.ErrBig, api.NLet, 16},
		// Variables of blocks that have ended are counted.
		{"fn f() { " + lets(0, 20) + "if 1 { let a = 1; } else { let a = 1; } while 1 { let a = 1; } let a = 1; let b = 1; }", api.ErrBig, api.NLet, 24},
		{"fn f() { " + lets(0, 24) + "if 1 { let a = 1; } }", api.ErrBig, api.NLet, 24},
		// Those of other functions are not, and they are checked in the order of the traversal.
		{"fn f() { " + lets(0, 23) + "fn(a, b, c) { let d = 1; }; let a = 1; let b = 1; }", api.ErrBig, api.NLet, 25},
		{"fn f(a) { fn(b, c) { " + lets(0, 24) + "}; }", api.ErrBig, api.NLet, 22},
		{"fn f() { " + lets(0, 24) + "let a = fn() { " + lets(30, 55) + "}; }", api.ErrBig, api.NLet, 49},
		{"fn f() { " + lets(0, 24) + "} fn g() { " + lets(0, 25) + "}", api.ErrBig, api.NLet, 48},
		// A name that is visible comes first.
		{"fn f() { " + lets(0, 24) + "let v0 = 1; }", api.ErrTwice, api.NLet, 24},
		{"fn f() { " + lets(0, 24) + "let a = 1; let v0 = 1; }", api.ErrBig, api.NLet, 24},
		{"fn f() { " + lets(0, 24) + "let a = x; }", api.ErrScope, api.NName, 0},
	} {
		checkError(t, module+c.functions, c.want, c.kind, c.n)
	}
}

func TestNamesThatReferToNothing(t *testing.T) {
	for _, c := range []struct {
		functions string
		kind, n   int
	}{
		{"fn f() { a = 1; }", api.NAssign, 0},
		{"fn f() { f = 1; }", api.NAssign, 0},
		{"fn f() { x = 1; }", api.NAssign, 0},
		{"fn f(a) { a = 1; b = 1; }", api.NAssign, 1},
		{"fn f(a) { fn() { a = 1; b = 1; }; }", api.NAssign, 1},
		{"fn f() { f; }", api.NName, 0},
		{"fn f() { m; }", api.NName, 0},
		{"fn f() { x; }", api.NName, 0},
		{"fn f() { y(); }", api.NName, 0},
		{"fn f() { spawn f; }", api.NName, 0},
		{"fn f() { (f)[0]; }", api.NName, 0},
		{"fn f() { f[0] = 0; }", api.NName, 0},
		{"fn f() { let g = f; }", api.NName, 0},
		// As an argument, or with another number of arguments.
		{"fn f(a) { f(f); }", api.NName, 1},
		{"fn f(a) { f(a); f(); }", api.NName, 2},
		{"fn f(a) { f(a, a); }", api.NName, 0},
		{"fn f() { f(1); }", api.NName, 0},
		{"fn f(a) { f()(a); }", api.NName, 0},
		{"fn f(a) { a(f(1, 2)); }", api.NName, 1},
		{"fn f() { g(1); } fn g() {} fn h(a) {}", api.NName, 0},
		{"fn f() { (f and f)(); }", api.NName, 0},
		{"fn f() { (- f)(); }", api.NName, 0},
		{"fn f() { fn() { f; }; }", api.NName, 0},
		// In all places.
		{"fn f() { return a; }", api.NName, 0},
		{"fn f() { put a; }", api.NName, 0},
		{"fn f() { emit a; }", api.NName, 0},
		{"fn f() { if a {} }", api.NName, 0},
		{"fn f() { if 1 { a; } }", api.NName, 0},
		{"fn f() { if 1 {} else { a; } }", api.NName, 0},
		{"fn f() { while a {} }", api.NName, 0},
		{"fn f() { while 1 { a; } }", api.NName, 0},
		{"fn f() { 1[a]; }", api.NName, 0},
		{"fn f() { 1[2][3] = a; }", api.NName, 0},
		{"fn f() { 1[a] = 2; }", api.NName, 0},
		{"fn f() { 1 + a; }", api.NName, 0},
		{"fn f() { 1 and a; }", api.NName, 0},
		{"fn f() { not a; }", api.NName, 0},
		{"fn f() { x.z(1, a); }", api.NName, 0},
		{"fn f() {} fn g() {} fn h() { a; }", api.NName, 0},
		// Uses.
		{"fn f() { x.y(1); }", api.NOuter, 0},
		{"fn f() { x.z(1); }", api.NOuter, 0},
		{"fn f() { x.z(1, 2, 3); }", api.NOuter, 0},
		{"fn f() { x.x(); }", api.NOuter, 0},
		{"fn f() { y.x(); }", api.NOuter, 0},
		{"fn f() { y.y(); }", api.NOuter, 0},
		{"fn f() { m.f(); }", api.NOuter, 0},
		{"fn f() { x.y(); x.z(x.y(), x.z(1, x.y(2))); }", api.NOuter, 4},
		{"fn f(x) { x.y(); x.y(1); }", api.NOuter, 1},
		{"fn f() { fn() { x.y(1); }; }", api.NOuter, 0},
	} {
		checkError(t, module+c.functions, api.ErrScope, c.kind, c.n)
	}
}

func TestBreakAndContinue(t *testing.T) {
	for word, kind := range map[string]int{"break": api.NBreak, "continue": api.NContinue} {
		for _, body := range []string{
			"while 1 { W; }",
			"while 1 { W; W; }",
			"while 1 { if 1 { W; } else { W; } }",
			"while 1 { while 1 { W; } W; }",
			"while 1 { fn() { while 1 { W; } }; W; }",
			"fn() { while 1 { W; } };",
			"while fn() { while 1 { W; } } { W; }",
		} {
			info(t, "module m 1; fn f() { "+strings.ReplaceAll(body, "W", word)+" }")
		}
		for body, n := range map[string]int{
			"W;":                         0,
			"if 1 { W; }":                0,
			"if 1 {} else { W; }":        0,
			"while 1 {} W;":              0,
			"while 1 { W; } W;":          1,
			"while 1 { while 1 {} } W;":  0,
			"while fn() { W; } {}":       0,
			"while fn() { W; } { W; }":   0,
			"while 1 { fn() { W; }; }":   0,
			"while 1 { fn() {}; W; } W;": 1,
			"while 1 { W; fn() { while 1 { W; } W; }; W; } W;":     2,
			"fn() { while 1 { W; } }; W;":                          1,
			"while 1 { let a = fn() { if 1 { W; } }; W; }":         0,
			"while 1 { W; } } fn g() { W;":                         1,
			"while 1 { fn() { fn() { while 1 { W; } }; W; }; W; }": 1,
		} {
			checkError(t, "module m 1; fn f() { "+strings.ReplaceAll(body, "W", word)+" }", api.ErrScope, kind, n)
		}
	}
	checkError(t, "module m 1; fn f() { continue; break; }", api.ErrScope, api.NContinue, 0)
	checkError(t, "module m 1; fn f() { while 1 { break; } continue; }", api.ErrScope, api.NContinue, 0)
}

func TestNumberOfFunctions(t *testing.T) {
	const empty = "fn() {}; "
	many := func(n int) string { return "fn g() { " + strings.Repeat(empty, n) + "} " }
	for top := 1; top <= 32; top++ {
		before, rest := functions(top/2), functions(top)[len(functions(top/2)):]
		rest = rest[len(fmt.Sprintf("fn f%d() {} ", top/2)):]
		got := info(t, "module m 1; "+before+many(64-top)+rest)
		if got.Top != top || len(got.Funs) != 64 {
			t.Errorf("Check of %d and %d functions: %d, %d", top, 64-top, got.Top, len(got.Funs))
		}
		checkError(t, "module m 1; "+before+many(65-top)+rest, api.ErrBig, api.NFn, 64-top)
		checkError(t, "module m 1; "+before+many(70-top)+rest, api.ErrBig, api.NFn, 64-top)
	}
	for _, c := range []struct {
		functions string
		want      api.Errno
		kind, n   int
	}{
		{"fn f() { " + strings.Repeat(empty, 62) + "fn() { fn() { fn() {}; }; }; }", api.ErrBig, api.NFn, 63},
		{"fn f() { " + strings.Repeat(empty, 60) + "let a = fn() { let b = fn() { let c = fn() { let d = fn() {}; }; }; }; }", api.ErrBig, api.NFn, 63},
		{"fn f() { " + strings.Repeat(empty, 40) + "} fn g() { " + strings.Repeat(empty, 40) + "}", api.ErrBig, api.NFn, 62},
		// Its parameters and its block are visited after it, and the NLet around it later still.
		{"fn f(a) { " + strings.Repeat(empty, 63) + "fn(a) {}; }", api.ErrBig, api.NFn, 63},
		{"fn f(a) { " + strings.Repeat(empty, 63) + "fn() { x; }; }", api.ErrBig, api.NFn, 63},
		{"fn f(a) { " + strings.Repeat(empty, 63) + "let a = fn() {}; }", api.ErrBig, api.NFn, 63},
		{"fn f(a) { " + strings.Repeat(empty, 63) + "x = fn() {}; }", api.ErrScope, api.NAssign, 0},
		{"fn f(a) { " + strings.Repeat(empty, 62) + "fn(a) {}; fn() {}; }", api.ErrTwice, api.NParam, 1},
	} {
		checkError(t, module+c.functions, c.want, c.kind, c.n)
	}
}

// P12.1: the first of several errors

func TestFirstError(t *testing.T) {
	for _, c := range []struct {
		functions string
		want      api.Errno
		kind, n   int
	}{
		// An NLet is visited after its expression, every other node before its children.
		{"fn f(a) { let a = b; }", api.ErrScope, api.NName, 0},
		{"fn f(a) { let a = fn() { break; }; }", api.ErrScope, api.NBreak, 0},
		{"fn f(a) { let a = fn() { let a = b; }; }", api.ErrScope, api.NName, 0},
		{"fn f(a) { let a = fn() { let a = 1; }; }", api.ErrTwice, api.NLet, 1},
		{"fn f() { a = b; }", api.ErrScope, api.NAssign, 0},
		{"fn f() { x.y(a); }", api.ErrScope, api.NOuter, 0},
		{"fn f() { a(b); }", api.ErrScope, api.NName, 0},
		{"fn f(a) { f(b, c); }", api.ErrScope, api.NName, 0},
		{"fn f(a) { a(b, c); }", api.ErrScope, api.NName, 1},
		{"fn f() { a[b] = c; }", api.ErrScope, api.NName, 0},
		{"fn f(a) { a[a] = c; d; }", api.ErrScope, api.NName, 2},
		{"fn f() { a + b; }", api.ErrScope, api.NName, 0},
		{"fn f(a) { a or b and c; }", api.ErrScope, api.NName, 1},
		{"fn f(a, a) { fn(b, b) {}; }", api.ErrTwice, api.NParam, 1},
		{"fn f(a) { fn(b, b) { c; }; let a = 1; }", api.ErrTwice, api.NParam, 2},
		{"fn f(a) { if b { let a = 1; } }", api.ErrScope, api.NName, 0},
		{"fn f(a) { if a { let a = 1; } else { break; } }", api.ErrTwice, api.NLet, 0},
		{"fn f(a) { if a { } else { break; } let a = 1; }", api.ErrScope, api.NBreak, 0},
		{"fn f(a) { while b { let a = 1; } }", api.ErrScope, api.NName, 0},
		{"fn f(a) { break; } fn g(a, a) { b; }", api.ErrScope, api.NBreak, 0},
		{"fn f(a) {} fn g(a, a) { b; } fn h() { c; }", api.ErrTwice, api.NParam, 2},
		{"fn f(a) { fn() { b; }; c; }", api.ErrScope, api.NName, 0},
		{"fn f(a) { return fn() { return fn(a) { break; }; }; }", api.ErrTwice, api.NParam, 1},
	} {
		checkError(t, module+c.functions, c.want, c.kind, c.n)
	}
}

// tall returns an expression with that height.
func tall(height int) string {
	s := "1"
	for range (height - 1) % 8 {
		s = "1 + (" + s + ")"
	}
	for range (height - 1) / 8 {
		s = "{}(1, 2, 3, 4, 5, 6, 7, " + s + ")"
	}
	return s
}

func TestNumberOfRegisters(t *testing.T) {
	for height := 1; height <= 100; height++ {
		got := info(t, "module m 1; fn f() { return "+tall(height)+"; }")
		if got.Funs[0].Need != height {
			t.Errorf("an expression with the height %d: Need %d", height, got.Funs[0].Need)
		}
	}
	for _, function := range []string{
		"fn f(a) { return " + tall(99) + "; }",
		"fn f() { " + lets(0, 24) + "return " + tall(76) + "; }",
		"fn f() { fn() { return " + tall(100) + "; }; return " + tall(100) + "; }",
		"fn f(a, b) { if a { let c = 1; } else { let c = 2; } return fn() { let d = a; return " + tall(99) + "; } == " + tall(97) + "; }",
		"fn f(a) { a[1] = " + tall(97) + "; }",
	} {
		got := info(t, module+function)
		for _, f := range got.Funs {
			if f.Need != 100 {
				t.Errorf("%q: Need %d; want 100", function, f.Need)
			}
		}
	}
	for _, c := range []struct {
		functions string
		want      api.Errno
		kind, n   int
	}{
		{"fn f() { return " + tall(101) + "; }", api.ErrBig, api.NFun, 0},
		{"fn f() { return " + tall(150) + "; }", api.ErrBig, api.NFun, 0},
		{"fn f(a) { return " + tall(100) + "; }", api.ErrBig, api.NFun, 0},
		{"fn f() { " + lets(0, 24) + "return " + tall(77) + "; }", api.ErrBig, api.NFun, 0},
		{"fn f(a) { a[1] = " + tall(98) + "; }", api.ErrBig, api.NFun, 0},
		{"fn f() { fn() {}; fn() { return " + tall(101) + "; }; }", api.ErrBig, api.NFn, 1},
		// The first one by number.
		{"fn f() { fn() { return " + tall(101) + "; }; } fn g() { return " + tall(101) + "; }", api.ErrBig, api.NFun, 1},
		{"fn f() {} fn g() { return " + tall(101) + "; } fn h() { return " + tall(102) + "; }", api.ErrBig, api.NFun, 1},
		{"fn f() { fn() { return fn() { return " + tall(101) + "; } == " + tall(101) + "; }; }", api.ErrBig, api.NFn, 0},
		{"fn f() { fn() { return fn() { return " + tall(101) + "; }; }; fn() { " + tall(102) + "; }; }", api.ErrBig, api.NFn, 1},
		// After all other errors.
		{"fn f() { return " + tall(101) + "; } fn g() { x; }", api.ErrScope, api.NName, 0},
		{"fn f() { return " + tall(101) + "; let a = 1; let a = 1; }", api.ErrTwice, api.NLet, 1},
		{"fn f() { return " + tall(101) + "; } fn g() { break; }", api.ErrScope, api.NBreak, 0},
	} {
		checkError(t, module+c.functions, c.want, c.kind, c.n)
	}
}

// R4: memory

func TestMemory(t *testing.T) {
	text := module + "fn f(a) { let b = fn(c) { return fn() { return a + c; }; }; fn() { return a; }; x.z(a, f(b)); }"
	l := nodes(t, text)
	want := info(t, text)
	// A node in the spare capacity of the argument.
	whole := append(slices.Clone(l), api.Node{Kind: api.NBreak})
	before := slices.Clone(whole)
	arg := whole[:len(l)]
	for overwritten := range 3 + 2*len(want.Funs) {
		got, _, _ := scope.Check(arg)
		overwrite(got, overwritten)
		for other := range 3 + 2*len(want.Funs) {
			if other != overwritten && !equalLists(got, want, other) {
				t.Errorf("the lists %d and %d of a result share memory", overwritten, other)
			}
		}
	}
	if !slices.Equal(whole, before) {
		t.Error("an argument was modified")
	}
	got, _, _ := scope.Check(arg)
	clear(whole)
	checkInfo(t, "nodes that were overwritten", got, want)
}

// overwrite overwrites one of the lists of an Info, including its spare capacity, and leaves the lists of its functions as they are.
func overwrite(got scope.Info, list int) {
	switch {
	case list == 0:
		clear(got.Refs[:cap(got.Refs)])
	case list == 1:
		clear(got.Uses[:cap(got.Uses)])
	case list == 2:
		funs := got.Funs[:cap(got.Funs)]
		for i := range funs {
			funs[i].Node--
		}
	case list%2 == 0:
		boxed := got.Funs[(list-3)/2].Boxed
		boxed = boxed[:cap(boxed)]
		for i := range boxed {
			boxed[i] = !boxed[i]
		}
	default:
		caps := got.Funs[(list-3)/2].Caps
		caps = caps[:cap(caps)]
		for i := range caps {
			caps[i].Index--
		}
	}
}

// equalLists compares one of the lists of two Infos.
func equalLists(a, b scope.Info, list int) bool {
	switch {
	case list == 0:
		return slices.Equal(a.Refs, b.Refs)
	case list == 1:
		return slices.Equal(a.Uses, b.Uses)
	case list == 2:
		return slices.EqualFunc(a.Funs, b.Funs, func(f, g api.Fun) bool { return f.Node == g.Node })
	case list%2 == 0:
		return slices.Equal(a.Funs[(list-3)/2].Boxed, b.Funs[(list-3)/2].Boxed)
	}
	return slices.Equal(a.Funs[(list-3)/2].Caps, b.Funs[(list-3)/2].Caps)
}
