package parse_test

import (
	"math"
	"math/rand"
	"slices"
	"strconv"
	"strings"
	"testing"

	"chrysalis/api"
	"chrysalis/lex"
	"chrysalis/parse"
	"chrysalis/tree"
)

// tokens returns the tokens of a text that has some.
func tokens(t *testing.T, s string) []api.Token {
	t.Helper()
	l, err, at := lex.Scan(s)
	if err != api.OK {
		t.Fatalf("Scan(%q) = %d, %d", s, err, at)
	}
	return l
}

// dump writes a valid tree with each node that has children in parentheses.
func dump(l []api.Node) string {
	if len(l) == 0 {
		return ""
	}
	out, end := dumpAt(l, 0)
	if end != len(l) {
		return out + " and more"
	}
	return out
}

func dumpAt(l []api.Node, at int) (string, int) {
	out := []string{label(l[at])}
	end := at + 1
	for range l[at].Kids {
		var s string
		s, end = dumpAt(l, end)
		out = append(out, s)
	}
	if isLeaf(l[at].Kind) {
		return out[0], end
	}
	return "(" + strings.Join(out, " ") + ")", end
}

func isLeaf(kind int) bool {
	return slices.Contains([]int{api.NUse, api.NParam, api.NBreak, api.NContinue, api.NYield, api.NNil, api.NInt, api.NText, api.NName, api.NTable, api.NState}, kind)
}

func label(n api.Node) string {
	switch n.Kind {
	case api.NModule:
		return "module " + n.Name + " " + strconv.FormatInt(n.N, 10)
	case api.NUse:
		return "use." + n.Name + "." + n.Text + "/" + strconv.FormatInt(n.N, 10)
	case api.NFun:
		return "fun " + n.Name
	case api.NParam:
		return "$" + n.Name
	case api.NLet:
		return "let " + n.Name
	case api.NAssign:
		return "assign " + n.Name
	case api.NInt:
		return strconv.FormatInt(n.N, 10)
	case api.NText:
		return strconv.Quote(n.Text)
	case api.NName:
		return n.Name
	case api.NOuter:
		return "outer " + n.Name + "." + n.Text
	case api.NBin, api.NUn:
		return n.Text
	}
	names := []string{api.NBlock: "block", api.NStore: "store", api.NIf: "if", api.NWhile: "while", api.NBreak: "break", api.NContinue: "continue",
		api.NReturn: "return", api.NPut: "put", api.NEmit: "emit", api.NYield: "yield", api.NDo: "do", api.NNil: "nil", api.NCall: "call",
		api.NFn: "fn", api.NTable: "{}", api.NIndex: "index", api.NState: "state", api.NSpawn: "spawn"}
	return names[n.Kind]
}

// checkText compares what Text and Tree return for s with the dump of a tree.
func checkText(t *testing.T, s, want string) {
	t.Helper()
	l, err, at := parse.Text(s)
	if dump(l) != want || err != api.OK || at != 0 {
		t.Errorf("Text(%q) = %s, %d, %d; want %s", s, dump(l), err, at, want)
	}
	if err, at := tree.Check(l); err != api.OK {
		t.Errorf("Check of Text(%q) = %d, %d", s, err, at)
	}
	if again, err, at := parse.Tree(tokens(t, s)); !slices.Equal(again, l) || err != api.OK || at != 0 {
		t.Errorf("Tree of %q = %s, %d, %d; want %s", s, dump(again), err, at, want)
	}
}

const (
	before = "module m 1; fn f() { "
	after  = " }"
)

func checkStmts(t *testing.T, s, want string) {
	t.Helper()
	if want != "" {
		want = " " + want
	}
	checkText(t, before+s+after, "(module m 1 (fun f (block"+want+")))")
}

func checkExpr(t *testing.T, s, want string) {
	t.Helper()
	checkStmts(t, "return "+s+";", "(return "+want+")")
}

// checkError compares the error of Text with the wanted one.
func checkError(t *testing.T, s string, want api.Errno, wantAt int) {
	t.Helper()
	l, err, at := parse.Text(s)
	if l != nil || err != want || at != wantAt {
		t.Errorf("Text(%q) = %s, %d, %d; want error %d at %d", s, dump(l), err, at, want, wantAt)
	}
}

// checkBad expects ErrToken at the first byte of the rest, or after the last token if the rest is empty.
func checkBad(t *testing.T, good, rest string) {
	t.Helper()
	s := good + " " + rest
	want := len(good) + 1
	if rest == "" {
		want = len(good)
		if l := tokens(t, good); len(l) > 0 {
			want = l[len(l)-1].At + 1
		}
	}
	checkError(t, s, api.ErrToken, want)
}

// Examples of the chapter

func TestExamples(t *testing.T) {
	l, err, at := parse.Text("module m 1; fn f(a) { return a + 1 * 2; }")
	want := []api.Node{
		{Kind: api.NModule, Kids: 1, Name: "m", N: 1},
		{Kind: api.NFun, Kids: 2, Name: "f"},
		{Kind: api.NParam, Name: "a"},
		{Kind: api.NBlock, Kids: 1},
		{Kind: api.NReturn, Kids: 1},
		{Kind: api.NBin, Kids: 2, Text: "+"},
		{Kind: api.NName, Name: "a"},
		{Kind: api.NBin, Kids: 2, Text: "*"},
		{Kind: api.NInt, N: 1},
		{Kind: api.NInt, N: 2},
	}
	if !slices.Equal(l, want) || err != api.OK || at != 0 {
		t.Errorf("Text = %v, %d, %d; want %v", l, err, at, want)
	}
	checkError(t, "module m 1; fn f() { 1 = 2; }", api.ErrToken, 23)
}

// P10.1: modules

func TestModules(t *testing.T) {
	checkText(t, "module m 1;", "(module m 1)")
	checkText(t, "module a_b0 2147483647;", "(module a_b0 2147483647)")
	checkText(t, "module m 1; use a.b/0; use a.b/8; use m.m/1;", "(module m 1 use.a.b/0 use.a.b/8 use.m.m/1)")
	checkText(t, "module m 1; fn f() { } fn g(a) { } fn f(a, b) { }", "(module m 1 (fun f (block)) (fun g $a (block)) (fun f $a $b (block)))")
	checkText(t, "module m 7; use n.g/2; fn f(a, a) { break; }", "(module m 7 use.n.g/2 (fun f $a $a (block break)))")
	checkText(t, "module m 1; fn f(a,b,c,d,e,f,g,h) { }", "(module m 1 (fun f $a $b $c $d $e $f $g $h (block)))")
}

// P10.1: statements

func TestStatements(t *testing.T) {
	checkStmts(t, "", "")
	checkStmts(t, "let a = 1;", "(let a 1)")
	checkStmts(t, "a = 1;", "(assign a 1)")
	checkStmts(t, "a[1] = 2;", "(store a 1 2)")
	checkStmts(t, "if a { }", "(if a (block))")
	checkStmts(t, "if a { break; } else { continue; yield; }", "(if a (block break) (block continue yield))")
	checkStmts(t, "while a { b; }", "(while a (block (do b)))")
	checkStmts(t, "break; continue; yield;", "break continue yield")
	checkStmts(t, "return 1; put 2; emit 3;", "(return 1) (put 2) (emit 3)")
	checkStmts(t, "a; 1; f();", "(do a) (do 1) (do (call f))")
	// A block after if, else and while is no table, and a table is no block.
	checkStmts(t, "if {} {} {};", "(if {} (block)) (do {})")
	checkStmts(t, "if a { } else { } { };", "(if a (block) (block)) (do {})")
	checkStmts(t, "while {} { {}; }", "(while {} (block (do {})))")
	checkStmts(t, "if a { if b { } } else { }", "(if a (block (if b (block))) (block))")
	checkStmts(t, "if a { if b { } else { } }", "(if a (block (if b (block) (block))))")
	checkStmts(t, "fn() { };", "(do (fn (block)))")
	checkStmts(t, "if fn() { } { }", "(if (fn (block)) (block))")
}

func TestTargets(t *testing.T) {
	checkStmts(t, "a = b == c;", "(assign a (== b c))")
	checkStmts(t, "(a) = 1; ((a)) = 2;", "(assign a 1) (assign a 2)")
	checkStmts(t, "(a[b]) = 1; ((a)[(b)]) = 2;", "(store a b 1) (store a b 2)")
	checkStmts(t, "a[b][c] = d;", "(store (index a b) c d)")
	checkStmts(t, "a()[0] = a[1];", "(store (call a) 0 (index a 1))")
	checkStmts(t, "m.f()[0] = 1;", "(store (outer m.f) 0 1)")
	checkStmts(t, "{}[0] = 1; nil[0] = 1; 1[0] = 1; \"\"[0] = 1; state[0] = 1;", `(store {} 0 1) (store nil 0 1) (store 1 0 1) (store "" 0 1) (store state 0 1)`)
	checkStmts(t, "(a + b)[0] = 1; (-a)[0] = 1;", "(store (+ a b) 0 1) (store (- a) 0 1)")
	checkStmts(t, "fn() { a = 1; }[0] = 1;", "(store (fn (block (assign a 1))) 0 1)")
	for _, s := range []string{
		"1", "\"a\"", "nil", "state", "{}", "fn() { }", "m.f()", "a()", "a[0]()", "a + b", "a[0] + a[0]", "a == b", "a and b", "a or b[0]", "a * b[0]",
		"-a", "not a", "len a", "spawn a", "- a[0]", "not a[0]", "len a[0]", "spawn a[0]", "(a + b)", "(-a[0])", "(1)", "((m.f()))", "a < b[0]", "a .. b[0]",
	} {
		checkBad(t, before+s, "= 1;"+after)
		checkStmts(t, "let b = "+s+";", "(let b "+dumpExpr(t, s)+")")
	}
	for _, s := range []string{"a = b", "a[0] = b", "let a = b", "return a", "put a[0]", "emit a", "a = (b", "f(a", "f[a", "if a", "while a[0]", "{}[a", "m.f(a"} {
		checkBad(t, before+s, "= 1;"+after)
	}
}

// dumpExpr returns the dump of an expression.
func dumpExpr(t *testing.T, s string) string {
	t.Helper()
	l, err, at := parse.Text(before + "return " + s + ";" + after)
	if err != api.OK {
		t.Fatalf("Text of %q = %d, %d", s, err, at)
	}
	return dump(tree.Sub(l, 4))
}

// P10.1: expressions

func TestPrimaries(t *testing.T) {
	checkExpr(t, "0", "0")
	checkExpr(t, "9223372036854775807", "9223372036854775807")
	checkExpr(t, `""`, `""`)
	checkExpr(t, `"a\"\\\n#"`, `"a\"\\\n#"`)
	checkExpr(t, "nil", "nil")
	checkExpr(t, "state", "state")
	checkExpr(t, "a", "a")
	checkExpr(t, "{}", "{}")
	checkExpr(t, "(a)", "a")
	checkExpr(t, "((((1))))", "1")
	checkExpr(t, "fn() { }", "(fn (block))")
	checkExpr(t, "fn(a, b) { return a; }", "(fn $a $b (block (return a)))")
	checkExpr(t, "m.f()", "(outer m.f)")
	checkExpr(t, "m.f(1, a, m.f(2))", "(outer m.f 1 a (outer m.f 2))")
	checkExpr(t, "m.f(1,2,3,4,5,6,7,8)", "(outer m.f 1 2 3 4 5 6 7 8)")
}

func TestPostfixes(t *testing.T) {
	checkExpr(t, "a()", "(call a)")
	checkExpr(t, "a(1, b)", "(call a 1 b)")
	checkExpr(t, "a(1)(2)[3](4, 5)", "(call (index (call (call a 1) 2) 3) 4 5)")
	checkExpr(t, "a[b[c]][d]", "(index (index a (index b c)) d)")
	checkExpr(t, "m.f(1)(2)", "(call (outer m.f 1) 2)")
	checkExpr(t, "(a)(1)", "(call a 1)")
	checkExpr(t, "(a + b)(1)", "(call (+ a b) 1)")
	checkExpr(t, "fn() { }()", "(call (fn (block)))")
	checkExpr(t, "1(2)", "(call 1 2)")
	checkExpr(t, `"a"[1]`, `(index "a" 1)`)
	checkExpr(t, "{}[1]", "(index {} 1)")
	checkExpr(t, "nil(nil)[state]", "(index (call nil nil) state)")
	checkExpr(t, "f(a or b, -1)", "(call f (or a b) (- 1))")
	checkExpr(t, "a[b or c]", "(index a (or b c))")
	checkExpr(t, "f(1,2,3,4,5,6,7,8)", "(call f 1 2 3 4 5 6 7 8)")
}

func TestUnaries(t *testing.T) {
	for _, op := range []string{"-", "not", "len", "spawn"} {
		checkExpr(t, op+" a", "("+op+" a)")
		checkExpr(t, op+" a(1)[2]", "("+op+" (index (call a 1) 2))")
		checkExpr(t, op+" "+op+" a", "("+op+" ("+op+" a))")
		checkExpr(t, op+" -a * b", "(* ("+op+" (- a)) b)")
		checkExpr(t, "a * "+op+" b", "(* a ("+op+" b))")
		checkExpr(t, op+" (a * b)", "("+op+" (* a b))")
		checkExpr(t, "("+op+" a)(1)", "(call ("+op+" a) 1)")
		checkExpr(t, op+" fn() { }", "("+op+" (fn (block)))")
	}
	checkExpr(t, "- not len spawn - a", "(- (not (len (spawn (- a)))))")
	checkExpr(t, "not a == b", "(== (not a) b)")
	checkExpr(t, "1--1", "(- 1 (- 1))")
	checkExpr(t, "-9223372036854775807", "(- 9223372036854775807)")
}

// levels contains the binary operators, those that bind the least first.
var levels = [][]string{{"or"}, {"and"}, {"==", "!=", "<", "<="}, {"+", "-", ".."}, {"*", "/", "%"}}

const cmpLevel = 2

func TestBinaries(t *testing.T) {
	for i, low := range levels {
		for _, op := range low {
			checkExpr(t, "a "+op+" b", "("+op+" a b)")
			checkExpr(t, "a "+op+" (b "+op+" c)", "("+op+" a ("+op+" b c))")
			for _, same := range low {
				if i == cmpLevel {
					checkBad(t, before+"a "+op+" b", same+" c;"+after)
					checkExpr(t, "(a "+op+" b) "+same+" c", "("+same+" ("+op+" a b) c)")
					continue
				}
				checkExpr(t, "a "+op+" b "+same+" c", "("+same+" ("+op+" a b) c)")
				checkExpr(t, "a "+op+" b "+same+" c "+op+" d", "("+op+" ("+same+" ("+op+" a b) c) d)")
			}
			for _, high := range slices.Concat(levels[i+1:]...) {
				checkExpr(t, "a "+op+" b "+high+" c", "("+op+" a ("+high+" b c))")
				checkExpr(t, "a "+high+" b "+op+" c", "("+op+" ("+high+" a b) c)")
				checkExpr(t, "a "+high+" b "+op+" c "+high+" d", "("+op+" ("+high+" a b) ("+high+" c d))")
				checkExpr(t, "(a "+op+" b) "+high+" c", "("+high+" ("+op+" a b) c)")
			}
		}
	}
	checkExpr(t, "a or b and c == d + e * -f(1)", "(or a (and b (== c (+ d (* e (- (call f 1)))))))")
	checkExpr(t, "-a * b + c < d and e or f", "(or (and (< (+ (* (- a) b) c) d) e) f)")
	checkExpr(t, "a < b and c < d or e <= f", "(or (and (< a b) (< c d)) (<= e f))")
	checkExpr(t, "1..2", "(.. 1 2)")
}

// P10.1: the first token with which no text can continue

func TestErrorsOfModules(t *testing.T) {
	for _, c := range [][2]string{
		{"", "m 1;"}, {"", "fn f() { }"}, {"", "use a.b/0;"}, {"", "1"}, {"", "\"module\""}, {"", ";"},
		{"module", "1;"}, {"module", ";"}, {"module", "module 1;"}, {"module", "nil 1;"}, {"module", "\"m\" 1;"},
		{"module m", ";"}, {"module m", "m;"}, {"module m", "- 1;"}, {"module m", "\"1\";"},
		{"module m 1", "fn f() { }"}, {"module m 1", "1;"}, {"module m 1", "."}, {"module m 1", ","},
		{"module m 1;", ";"}, {"module m 1;", "module n 1;"}, {"module m 1;", "m"}, {"module m 1;", "let a = 1;"}, {"module m 1;", "{ }"}, {"module m 1;", "1"},
		{"module m 1; use", ";"}, {"module m 1; use", "1"}, {"module m 1; use", "use"}, {"module m 1; use a", ";"}, {"module m 1; use a", "b"}, {"module m 1; use a", ".."},
		{"module m 1; use a .", "1"}, {"module m 1; use a .", "."}, {"module m 1; use a . b", ";"}, {"module m 1; use a . b", "0"}, {"module m 1; use a . b /", "c"},
		{"module m 1; use a . b /", "-"}, {"module m 1; use a . b /", ";"}, {"module m 1; use a . b / 0", "use"}, {"module m 1; use a . b / 0", ","},
		{"module m 1; use a.b/0;", ";"}, {"module m 1; use a.b/0;", "a.b/0;"},
		{"module m 1; fn f() { }", "use a.b/0;"}, {"module m 1; fn f() { }", ";"}, {"module m 1; fn f() { }", "}"}, {"module m 1; fn f() { }", "f"},
		{"module m 1; fn", "( ) { }"}, {"module m 1; fn", "fn"}, {"module m 1; fn", "1"}, {"module m 1; fn f", "{ }"}, {"module m 1; fn f", ";"}, {"module m 1; fn f", "."},
		{"module m 1; fn f (", ","}, {"module m 1; fn f (", "1"}, {"module m 1; fn f (", "("}, {"module m 1; fn f ( a", "b"}, {"module m 1; fn f ( a", ";"}, {"module m 1; fn f ( a", "= 1"},
		{"module m 1; fn f ( a ,", ")"}, {"module m 1; fn f ( a ,", ","}, {"module m 1; fn f ( )", ";"}, {"module m 1; fn f ( )", "("}, {"module m 1; fn f ( )", "return 1;"},
	} {
		checkBad(t, c[0], c[1])
	}
}

func TestErrorsOfStatements(t *testing.T) {
	for _, c := range [][2]string{
		{"", ";"}, {"", ")"}, {"", "]"}, {"", "else { }"}, {"", "use a.b/0;"}, {"", "module"}, {"", "= 1;"}, {"", "and a;"}, {"", "+ a;"}, {"", ", a;"}, {"", "* a;"},
		{"let", "= 1;"}, {"let", "1"}, {"let", "let"}, {"let", "(a) = 1;"}, {"let a", ";"}, {"let a", "== 1;"}, {"let a", "[0] = 1;"}, {"let a", ". b = 1;"}, {"let a =", ";"}, {"let a = 1", "}"}, {"let a = 1", ", b;"},
		{"if", ";"}, {"if", "if"}, {"if", "}"}, {"if {", "a; }"}, {"if a", ";"}, {"if a", "a"}, {"if a", "return 1;"}, {"if a { } else", "if b { }"}, {"if a { } else", ";"}, {"if a { } else { }", "else { }"}, {"if a { }", ";"},
		{"while", ";"}, {"while a", ";"}, {"while a", "break;"}, {"while a { }", "else { }"}, {"while a { }", ";"}, {"while {", "break; }"},
		{"break", "}"}, {"break", "1;"}, {"break", "a;"}, {"continue", "}"}, {"continue", "("}, {"yield", "1;"}, {"yield", "break;"}, {"yield", "}"},
		{"return", ";"}, {"return", "}"}, {"return 1", "}"}, {"return 1", "2;"}, {"put", ";"}, {"put a", "b;"}, {"emit", ";"}, {"emit 1", ", 2;"}, {"return", "return 1;"}, {"return", "let a = 1;"},
		{"a", "}"}, {"a", "b;"}, {"a", "1;"}, {"a", "let"}, {"a", "fn"}, {"a", "{ }"}, {"a", "nil"}, {"a", "not b;"}, {"a =", ";"}, {"a =", "= b;"}, {"a = 1", "}"}, {"a = b", "= c;"}, {"a", "\"b\";"},
		{"{", "a; }"}, {"{", "1"}, {"{", "; }"}, {"{ }", "}"}, {"{ }", "{ }"},
	} {
		checkBad(t, before+c[0], c[1])
	}
}

func TestErrorsOfExpressions(t *testing.T) {
	for _, c := range [][2]string{
		{"a .", "1"}, {"a .", "("}, {"a .", "nil"}, {"a .", ".. b;"}, {"a . b", ";"}, {"a . b", "[0]"}, {"a . b", ". c();"}, {"a . b", "= 1;"}, {"a . b", "+ c;"}, {"a . b ( )", ". c();"},
		{"a ( )", ". b();"}, {"( a )", ". b();"}, {"1", ". b();"}, {"nil", ". b();"}, {"a [ 0 ]", ". b();"}, {"state", ". b();"},
		{"a (", ";"}, {"a (", ", 1);"}, {"a ( 1", ";"}, {"a ( 1", "2);"}, {"a ( 1 ,", ")"}, {"a ( 1 ,", ", 2)"}, {"a ( 1", "]"}, {"a ( 1", "}"}, {"a (", "]"}, {"a (", "let"},
		{"a [", "];"}, {"a [ 0", ")"}, {"a [ 0", ", 1];"}, {"a [ 0", ";"}, {"a [ 0", "}"}, {"a . b ( 1", ";"}, {"a . b ( 1 ,", ")"},
		{"(", ");"}, {"( a", ";"}, {"( a", "]"}, {"( a", ", b);"}, {"( a", "= b);"}, {"( a )", "b;"}, {"( a )", "1"},
		{"fn", "f() { };"}, {"fn", "{ };"}, {"fn ( a", "1"}, {"fn ( )", ";"}, {"fn ( ) { }", "}"}, {"fn ( ) { }", "{ }"}, {"fn ( a ,", ")"}, {"fn (", "1"},
		{"-", ";"}, {"-", "* a;"}, {"- -", ")"}, {"not", ";"}, {"not", "and b;"}, {"len", "}"}, {"spawn", ";"}, {"spawn", "/"}, {"- a", "not b;"}, {"-", "let"}, {"not", "return"},
		{"a +", "+ b;"}, {"a +", ";"}, {"a *", "/ b;"}, {"a ..", ". b;"}, {"a ==", "= b;"}, {"a ==", "== b;"}, {"a <", "<= b;"}, {"a and", "or b;"}, {"a or", ")"}, {"a or", ";"},
		{"a == b", "== c;"}, {"a < b", "< c;"}, {"a < b + c", "<= d;"}, {"a != b * -c", "== d;"}, {"a and b == c", "!= d;"},
		{"nil", "nil;"}, {"1", "2;"}, {"\"a\"", "\"b\";"}, {"state", "a;"}, {"a", "state;"},
	} {
		checkBad(t, before+c[0], c[1])
		checkBad(t, before+"return "+c[0], c[1])
	}
}

func TestTextsThatAreNotComplete(t *testing.T) {
	checkError(t, "", api.ErrToken, 0)
	checkError(t, " # module m 1;", api.ErrToken, 0)
	if l, err, at := parse.Tree(nil); l != nil || err != api.ErrToken || at != 0 {
		t.Errorf("Tree(nil) = %v, %d, %d", l, err, at)
	}
	if l, err, at := parse.Tree([]api.Token{}); l != nil || err != api.ErrToken || at != 0 {
		t.Errorf("Tree of no tokens = %v, %d, %d", l, err, at)
	}
	// The offset is the one after the first byte of the last token, whatever its length and what stands after it.
	checkError(t, "module", api.ErrToken, 1)
	checkError(t, "  module", api.ErrToken, 3)
	checkError(t, "module abc", api.ErrToken, 8)
	checkError(t, "module m 123  # ;", api.ErrToken, 10)
	checkError(t, "module m 1; fn f() { return \"abc\"  \n", api.ErrToken, 29)
	checkError(t, "module m 1; fn f() { if a { } else", api.ErrToken, 31)
	s := "module m 1; use a.b/0; fn f(a, b) { let c = 1; if a == -b { c[0] = m.f(1, 2)(3); } else { while not c { break; } } return fn() { yield; }; }"
	l := tokens(t, s)
	for i := range l {
		_, err, at := parse.Tree(l[:i])
		complete := i == 4 || i == 11
		switch {
		case complete && err != api.OK:
			t.Errorf("Tree of %d tokens = %d, %d", i, err, at)
		case !complete && i > 0 && (err != api.ErrToken || at != l[i-1].At+1):
			t.Errorf("Tree of %d tokens = %d, %d; want %d, %d", i, err, at, api.ErrToken, l[i-1].At+1)
		}
	}
	if _, err, _ := parse.Tree(l); err != api.OK {
		t.Errorf("Tree of all tokens = %d", err)
	}
}

// The grammar itself decides which tokens can stand at a place

// alphabet contains each keyword and each mark, and tokens of the other kinds.
func alphabet() []api.Token {
	var l []api.Token
	for _, s := range strings.Fields("module use fn let if else while break continue return put emit yield nil state spawn len not and or") {
		l = append(l, api.Token{Kind: api.TKey, Text: s})
	}
	for _, s := range strings.Fields("== != <= .. ( ) { } [ ] , ; . / = < + - * %") {
		l = append(l, api.Token{Kind: api.TMark, Text: s})
	}
	return append(l, api.Token{Kind: api.TName, Text: "a"}, api.Token{Kind: api.TInt, Text: "1", N: 1}, api.Token{Kind: api.TText, Text: "nil"}, api.Token{Kind: 6, Text: "nil"})
}

// laid returns the tokens at offsets that tell them apart.
func laid(l []api.Token) []api.Token {
	l = slices.Clone(l)
	for i := range l {
		l[i].At = 10 + 7*i
	}
	return l
}

// wantedError returns the error and the offset of the tokens, as far as the grammar determines them.
func wantedError(g rules, l []api.Token) (api.Errno, int) {
	e := newReader(g, "module")
	for _, t := range l {
		if !e.push(t) {
			return api.ErrToken, t.At
		}
	}
	switch {
	case e.complete("module"):
		return api.OK, 0
	case len(l) == 0:
		return api.ErrToken, 0
	}
	return api.ErrToken, l[len(l)-1].At + 1
}

func checkAgainstGrammar(t *testing.T, g rules, l []api.Token) {
	t.Helper()
	l = laid(l)
	want, wantAt := wantedError(g, l)
	nodes, err, at := parse.Tree(l)
	if err != want || at != wantAt || (len(nodes) > 0) != (want == api.OK) {
		t.Errorf("Tree of %q = %d, %d; want %d, %d", lex.Text(l), err, at, want, wantAt)
	}
}

// checkAll compares, for each text that can continue after the tokens l, with at most n further ones, each token after it.
func checkAll(t *testing.T, e *reader, l []api.Token, n int) {
	all := alphabet()
	for _, x := range all {
		x.At = 10 + 7*len(l)
		longer := append(slices.Clip(l), x)
		nodes, err, at := parse.Tree(longer)
		if !e.push(x) {
			if len(nodes) > 0 || err != api.ErrToken || at != x.At {
				t.Errorf("Tree of %q = %d, %d; want %d, %d", lex.Text(longer), err, at, api.ErrToken, x.At)
			}
			continue
		}
		if complete := e.complete("module"); complete != (err == api.OK) || complete != (len(nodes) > 0) || !complete && (err != api.ErrToken || at != x.At+1) {
			t.Errorf("Tree of %q = %d, %d; complete is %t", lex.Text(longer), err, at, complete)
		}
		if n > 1 && !t.Failed() {
			checkAll(t, e, longer, n-1)
		}
		e.pop()
	}
}

func TestAllShortContinuations(t *testing.T) {
	g := readGrammar(grammar)
	starts := map[string]int{
		"": 7, "module m 1 ;": 5, before: 3, before + "a": 3, before + "a [ 0 ]": 3, before + "( a": 3, before + "( a )": 3, before + "if a { }": 2,
		before + "if a { } else { }": 2, before + "while a": 3, before + "a < b": 3, before + "return not": 2, before + "f ( a": 3, before + "a . b (": 2,
		before + "fn ( a": 3, before + "a = fn ( ) { }": 2, before + "let a = 1 ; }": 3, before + "- a": 2, before + "( a [ 1 ]": 3, before + "a [ b": 2,
	}
	for s, n := range starts {
		if testing.Short() {
			n = min(n, 2)
		}
		e := newReader(g, "module")
		var l []api.Token
		for i, x := range tokens(t, s) {
			x.At = 10 + 7*i
			if !e.push(x) {
				t.Fatalf("the grammar does not know %q", s)
			}
			l = append(l, x)
		}
		checkAll(t, e, l, n)
	}
}

func TestChangedPrograms(t *testing.T) {
	g := readGrammar(grammar)
	r := rand.New(rand.NewSource(1))
	all := alphabet()
	rounds := 800
	if testing.Short() {
		rounds = 200
	}
	for range rounds {
		p := &printer{r: r}
		l := p.print(randomModule(r, 25))
		checkAgainstGrammar(t, g, l)
		for range 3 {
			i := r.Intn(len(l) + 1)
			x := all[r.Intn(len(all))]
			switch {
			case i == len(l) || r.Intn(3) == 0:
				l = slices.Insert(slices.Clone(l), i, x)
			case r.Intn(2) == 0:
				l = slices.Delete(slices.Clone(l), i, i+1)
			default:
				l = slices.Clone(l)
				l[i] = x
			}
			checkAgainstGrammar(t, g, l)
		}
		checkAgainstGrammar(t, g, l[:r.Intn(len(l)+1)])
		if t.Failed() {
			return
		}
	}
}

// P10.1: tokens that do not come from Scan

func TestKindsAndTextsOfTokens(t *testing.T) {
	g := readGrammar(grammar)
	l := tokens(t, before+"let a = -1 * b(2, \"c\")[m.f(nil)]; if a { } else { a = {}; } while state { spawn fn() { yield; }; put len not 1; }"+after)
	for i := range l {
		for _, kind := range []int{0, -1, 6, 7, math.MinInt, math.MaxInt, api.TName, api.TInt, api.TText} {
			changed := slices.Clone(l)
			if changed[i].Kind == kind || kind == api.TName && l[i].Text == "1" {
				continue
			}
			changed[i].Kind = kind
			want, wantAt := wantedError(g, changed)
			if want == api.OK {
				// A name in the place of a text or an integer, and the like: the fields are not valid then, or the tree is another one.
				continue
			}
			if nodes, err, at := parse.Tree(changed); nodes != nil || err != want || at != wantAt {
				t.Errorf("with the kind %d of token %d, Tree = %d, %d; want %d, %d", kind, i, err, at, want, wantAt)
			}
		}
		if l[i].Kind != api.TKey && l[i].Kind != api.TMark {
			continue
		}
		for _, s := range []string{"", l[i].Text + " ", " " + l[i].Text, l[i].Text + l[i].Text, strings.ToUpper(l[i].Text) + "\x00"} {
			changed := slices.Clone(l)
			changed[i].Text = s
			want, wantAt := wantedError(g, changed)
			if nodes, err, at := parse.Tree(changed); (nodes != nil) != (want == api.OK) || err != want || at != wantAt {
				t.Errorf("with the text %q of token %d, Tree = %d, %d; want %d, %d", s, i, err, at, want, wantAt)
			}
		}
	}
}

func TestFieldsOfTokens(t *testing.T) {
	l := tokens(t, "module m 1; use a.b/2; fn f(p) { let x = 3; x = c.d(\"t\"); }")
	for i := range l {
		// The fields that the grammar does not mention do not matter.
		switch l[i].Kind {
		case api.TInt:
			l[i].Text = "x"
		case api.TName, api.TText, api.TKey, api.TMark:
			l[i].N = int64(-1 - i)
		}
		l[i].At = -i * 100
	}
	nodes, err, at := parse.Tree(l)
	want := "(module m 1 use.a.b/2 (fun f $p (block (let x 3) (assign x (outer c.d \"t\")))))"
	if dump(nodes) != want || err != api.OK || at != 0 {
		t.Errorf("Tree = %s, %d, %d; want %s", dump(nodes), err, at, want)
	}
	if err, at := tree.Check(nodes); err != api.OK {
		t.Errorf("Check = %d, %d", err, at)
	}
	for _, offset := range []int{math.MinInt, -1, 0, 5, math.MaxInt - 1} {
		for i := range l {
			if i == 4 || i == 11 {
				continue
			}
			short := slices.Clone(l[:i])
			wantAt := 0
			if i > 0 {
				short[i-1].At = offset
				wantAt = offset + 1
			}
			if nodes, err, at := parse.Tree(short); nodes != nil || err != api.ErrToken || at != wantAt {
				t.Errorf("Tree of %d tokens = %d, %d; want %d, %d", i, err, at, api.ErrToken, wantAt)
			}
			bad := slices.Clone(l)
			bad[i] = api.Token{Kind: api.TMark, Text: "!", At: offset}
			if nodes, err, at := parse.Tree(bad); nodes != nil || err != api.ErrToken || at != offset {
				t.Errorf("Tree with a wrong token %d = %d, %d; want %d, %d", i, err, at, api.ErrToken, offset)
			}
		}
	}
}

func TestKeywordsAndMarksOfEitherKind(t *testing.T) {
	l := tokens(t, before+"let a = -b; if not a { a[0] = nil; }"+after)
	want, _, _ := parse.Tree(l)
	for i := range l {
		if l[i].Kind == api.TKey {
			l[i].Kind = api.TMark
		} else if l[i].Kind == api.TMark {
			l[i].Kind = api.TKey
		}
	}
	if got, err, at := parse.Tree(l); len(got) == 0 || !slices.Equal(got, want) || err != api.OK || at != 0 {
		t.Errorf("Tree = %s, %d, %d; want %s", dump(got), err, at, dump(want))
	}
}

// P10.1: the errors of tree.Check

// checkTree expects an error of tree.Check.
func checkTree(t *testing.T, what string, l []api.Token, want api.Errno) {
	t.Helper()
	nodes, err, at := parse.Tree(l)
	if (want == api.OK) != (nodes != nil) || err != want || at != 0 {
		t.Errorf("Tree of %s = %d nodes, %d, %d; want %d, 0", what, len(nodes), err, at, want)
	}
}

func TestInvalidFields(t *testing.T) {
	checkError(t, "module m 0;", api.ErrForm, 0)
	checkError(t, "module m 2147483648;", api.ErrForm, 0)
	checkError(t, "module m 9223372036854775807;", api.ErrForm, 0)
	checkError(t, "  module m 1; use a.b/9;", api.ErrForm, 0)
	checkError(t, "module m 1; use a.b/0; use a.b/9223372036854775807;", api.ErrForm, 0)
	checkError(t, "module m 1; fn f(a,b,c,d,e,f,g,h,i) { }", api.ErrForm, 0)
	checkError(t, before+"fn(a,b,c,d,e,f,g,h,i) { };"+after, api.ErrForm, 0)
	checkError(t, before+"f(1,2,3,4,5,6,7,8,9);"+after, api.ErrForm, 0)
	checkError(t, before+"m.f(1,2,3,4,5,6,7,8,9);"+after, api.ErrForm, 0)
	checkExpr(t, `"`+strings.Repeat("a", api.MaxString)+`"`, `"`+strings.Repeat("a", api.MaxString)+`"`)
	checkError(t, before+`emit "`+strings.Repeat("a", api.MaxString+1)+`";`+after, api.ErrForm, 0)
	// A token that can't stand where it is comes first, wherever it is.
	checkError(t, "module m 0; fn f() { 1 = 2; }", api.ErrToken, 23)
	checkError(t, "module m 1; use a.b/9; fn f(a,b,c,d,e,f,g,h,i) { f(1,2,3,4,5,6,7,8,9); } ;", api.ErrToken, 73)
	checkError(t, "module m 0", api.ErrToken, 10)
}

func TestInvalidNamesAndNumbers(t *testing.T) {
	l := tokens(t, "module m 1; use a.b/2; fn f(p) { let x = 3; x = c.d(\"t\"); return fn(q) { return y; }; }")
	checkTree(t, "the tokens", l, api.OK)
	for i := range l {
		switch l[i].Kind {
		case api.TName:
			for _, s := range []string{"", "fn", "state", "A", "1", "a-b", "a ", "_", strings.Repeat("a", api.MaxName+1)} {
				changed := slices.Clone(l)
				changed[i].Text = s
				checkTree(t, "the name "+strconv.Quote(s), changed, api.ErrForm)
			}
		case api.TInt:
			changed := slices.Clone(l)
			for _, n := range []int64{-1, math.MinInt64} {
				changed[i].N = n
				checkTree(t, "a negative number", changed, api.ErrForm)
			}
		case api.TText:
			changed := slices.Clone(l)
			changed[i].Text = strings.Repeat("\"", api.MaxString)
			checkTree(t, "a text", changed, api.OK)
			changed[i].Text += "\""
			checkTree(t, "a long text", changed, api.ErrForm)
		}
	}
}

// nested returns a module with an expression that is n nodes deep.
func nested(n int) string {
	return before + "return " + strings.Repeat("-", n-1) + "1;" + after
}

func TestTreesThatAreTooBig(t *testing.T) {
	const around = 3 // NModule, NFun, NBlock
	full := before + strings.Repeat("break;", 1000) + after
	checkTree(t, "1003 nodes", tokens(t, full), api.OK)
	l := slices.Concat(tokens(t, before), slices.Repeat(tokens(t, "break;"), api.MaxNodes-around), tokens(t, after))
	checkTree(t, "MaxNodes nodes", l, api.OK)
	l = slices.Concat(tokens(t, before), slices.Repeat(tokens(t, "break;"), api.MaxNodes-around+1), tokens(t, after))
	checkTree(t, "more than MaxNodes nodes", l, api.ErrBig)
	l[2].N = 0
	checkTree(t, "more than MaxNodes nodes, of which one is not valid", l, api.ErrBig)
	l = l[:len(l)-1]
	if nodes, err, at := parse.Tree(l); nodes != nil || err != api.ErrToken || at != l[len(l)-1].At+1 {
		t.Errorf("Tree of too many nodes without an end = %d, %d", err, at)
	}
	if nodes, err, _ := parse.Text(nested(api.MaxDepth - around - 1)); err != api.OK || tree.Depth(nodes) != api.MaxDepth {
		t.Errorf("Text of MaxDepth = %d, %d", tree.Depth(nodes), err)
	}
	checkError(t, nested(api.MaxDepth-around), api.ErrBig, 0)
	checkError(t, nested(api.MaxDepth-around)+";", api.ErrToken, len(nested(api.MaxDepth-around)))
	// Parentheses are no nodes.
	n := (api.MaxText - len(before+"return 1;"+after)) / 2
	checkExpr(t, strings.Repeat("(", n)+"1"+strings.Repeat(")", n), "1")
	checkBad(t, before+strings.Repeat("(", 1000)+"1"+strings.Repeat(")", 1000), ") ; }")
}

func TestManyTokens(t *testing.T) {
	const levels = 1 << 16
	deep := func(what, s, tail string, want api.Errno) {
		t.Helper()
		l := slices.Concat(tokens(t, before+"return"), slices.Repeat(tokens(t, s), levels), tokens(t, "a"), slices.Repeat(tokens(t, tail), levels), tokens(t, ";"+after))
		checkTree(t, what, l, want)
		l[len(l)-1].Text = ")"
		if nodes, err, at := parse.Tree(l); nodes != nil || err != api.ErrToken || at != l[len(l)-1].At {
			t.Errorf("Tree of %s and a wrong token = %d, %d", what, err, at)
		}
		last := l[len(l)/3]
		if nodes, err, at := parse.Tree(l[:len(l)/3+1]); nodes != nil || err != api.ErrToken || at != last.At+1 {
			t.Errorf("Tree of a part of %s = %d, %d; want %d, %d", what, err, at, api.ErrToken, last.At+1)
		}
	}
	if testing.Short() {
		t.Skip("takes seconds")
	}
	deep("parentheses", "(", ")", api.OK)
	deep("unary operators", "not", "", api.ErrBig)
	deep("calls", "f(", ")", api.ErrBig)
	deep("indexes", "a[", "]", api.ErrBig)
	deep("functions", "fn() { return", "; }", api.ErrBig)
	deep("rows", "a +", "+ a", api.ErrBig)
	deep("calls of calls", "", "(1)", api.ErrBig)
	deep("indexes of indexes", "", "[1]", api.ErrBig)
}

// R4: memory

func TestMemory(t *testing.T) {
	l := append(tokens(t, "module m 1; use a.b/2; fn f(p) { p[0] = a.b(1, \"t\"); }"), api.Token{Kind: 9, Text: "spare", N: 7, At: 70})
	kept := slices.Clone(l)
	first, err, _ := parse.Tree(l[:len(l)-1])
	want := slices.Clone(first)
	if len(first) == 0 || err != api.OK {
		t.Fatalf("Tree = %v, %d", first, err)
	}
	clear(first[:cap(first)])
	second, _, _ := parse.Tree(l[: len(l)-1 : len(l)-1])
	clear(l)
	if !slices.Equal(second, want) {
		t.Errorf("Tree = %v; want %v", second, want)
	}
	copy(l, kept)
	parse.Tree(l)
	if !slices.Equal(l, kept) {
		t.Errorf("Tree changed its tokens to %v", l)
	}
}

// P10.2

func TestTextReturnsErrorsOfScan(t *testing.T) {
	long := "module m 1;" + strings.Repeat(" ", api.MaxText-11)
	checkText(t, long, "(module m 1)")
	checkError(t, long+" ", api.ErrBig, 0)
	checkError(t, "module m 1; !", api.ErrSign, 12)
	checkError(t, "module m 01;", api.ErrToken, 9)
	checkError(t, "module m 9223372036854775808;", api.ErrToken, 9)
	checkError(t, "module abcdefghijklmnopq 1;", api.ErrToken, 7)
	checkError(t, before+"emit \"a"+after, api.ErrToken, 26)
	checkError(t, before+"emit \"\\t\";"+after, api.ErrToken, 26)
	// All tokens are found before the first one is looked at.
	checkError(t, "; 1 = 2 @", api.ErrSign, 8)
	checkError(t, "module m 0; 007", api.ErrToken, 12)
}

// P10.3

// Trees are generated and printed with parentheses where they are needed, and sometimes elsewhere.

type printer struct {
	r   *rand.Rand
	l   []api.Node
	at  int
	out []api.Token
}

func (p *printer) print(l []api.Node) []api.Token {
	p.l, p.at, p.out = l, 0, nil
	p.module()
	return p.out
}

func (p *printer) node() api.Node {
	p.at++
	return p.l[p.at-1]
}

func (p *printer) put(texts ...string) {
	for _, s := range texts {
		kind := api.TMark
		if lex.Key(s) {
			kind = api.TKey
		}
		p.out = append(p.out, api.Token{Kind: kind, Text: s})
	}
}

func (p *printer) name(s string) {
	p.out = append(p.out, api.Token{Kind: api.TName, Text: s})
}

func (p *printer) int(n int64) {
	p.out = append(p.out, api.Token{Kind: api.TInt, Text: strconv.FormatInt(n, 10), N: n})
}

func (p *printer) module() {
	m := p.node()
	p.put("module")
	p.name(m.Name)
	p.int(m.N)
	p.put(";")
	for range m.Kids {
		n := p.node()
		if n.Kind == api.NFun {
			p.put("fn")
			p.name(n.Name)
			p.function(n)
			continue
		}
		p.put("use")
		p.name(n.Name)
		p.put(".")
		p.name(n.Text)
		p.put("/")
		p.int(n.N)
		p.put(";")
	}
}

func (p *printer) function(n api.Node) {
	p.put("(")
	for i := range n.Kids - 1 {
		if i > 0 {
			p.put(",")
		}
		p.name(p.node().Name)
	}
	p.put(")")
	p.block()
}

func (p *printer) block() {
	p.put("{")
	for range p.node().Kids {
		p.stmt()
	}
	p.put("}")
}

func (p *printer) stmt() {
	n := p.node()
	switch n.Kind {
	case api.NIf, api.NWhile:
		p.put(map[int]string{api.NIf: "if", api.NWhile: "while"}[n.Kind])
		p.expr(1)
		p.block()
		if n.Kids == 3 {
			p.put("else")
			p.block()
		}
		return
	case api.NLet:
		p.put("let")
		p.name(n.Name)
		p.put("=")
		p.expr(1)
	case api.NAssign:
		p.enclosed(func() { p.name(n.Name) })
		p.put("=")
		p.expr(1)
	case api.NStore:
		p.enclosed(func() {
			p.expr(7)
			p.put("[")
			p.expr(1)
			p.put("]")
		})
		p.put("=")
		p.expr(1)
	case api.NDo:
		p.expr(1)
	default:
		p.put(map[int]string{api.NBreak: "break", api.NContinue: "continue", api.NYield: "yield", api.NReturn: "return", api.NPut: "put", api.NEmit: "emit"}[n.Kind])
		if n.Kids == 1 {
			p.expr(1)
		}
	}
	p.put(";")
}

// enclosed prints something, sometimes in parentheses.
func (p *printer) enclosed(print func()) {
	n := max(0, p.r.Intn(12)-9)
	for range n {
		p.put("(")
	}
	print()
	for range n {
		p.put(")")
	}
}

// level returns how strongly an expression binds: 1 for or, 8 for what needs no parentheses anywhere.
func level(n api.Node) int {
	switch n.Kind {
	case api.NBin:
		return 1 + slices.IndexFunc(levels, func(l []string) bool { return slices.Contains(l, n.Text) })
	case api.NUn, api.NSpawn:
		return 6
	case api.NCall, api.NIndex:
		return 7
	}
	return 8
}

// expr prints an expression where at least that level is needed.
func (p *printer) expr(needed int) {
	p.enclosed(func() {
		n := p.node()
		enclose := level(n) < needed
		if enclose {
			p.put("(")
		}
		p.bare(n)
		if enclose {
			p.put(")")
		}
	})
}

func (p *printer) bare(n api.Node) {
	switch n.Kind {
	case api.NNil:
		p.put("nil")
	case api.NState:
		p.put("state")
	case api.NInt:
		p.int(n.N)
	case api.NText:
		p.out = append(p.out, api.Token{Kind: api.TText, Text: n.Text})
	case api.NName:
		p.name(n.Name)
	case api.NTable:
		p.put("{", "}")
	case api.NFn:
		p.put("fn")
		p.function(n)
	case api.NIndex:
		p.expr(7)
		p.put("[")
		p.expr(1)
		p.put("]")
	case api.NCall:
		p.expr(7)
		p.args(n.Kids - 1)
	case api.NOuter:
		p.name(n.Name)
		p.put(".")
		p.name(n.Text)
		p.args(n.Kids)
	case api.NUn:
		p.put(n.Text)
		p.expr(6)
	case api.NSpawn:
		p.put("spawn")
		p.expr(6)
	case api.NBin:
		own := level(n)
		left := own
		if own == 1+cmpLevel {
			left = own + 1
		}
		p.expr(left)
		p.put(n.Text)
		p.expr(own + 1)
	}
}

func (p *printer) args(n int) {
	p.put("(")
	for i := range n {
		if i > 0 {
			p.put(",")
		}
		p.expr(1)
	}
	p.put(")")
}

// grower generates random trees of about so many nodes.
type grower struct {
	r    *rand.Rand
	left int
}

func randomModule(r *rand.Rand, size int) []api.Node {
	g := &grower{r: r, left: size}
	l := [][]api.Node{}
	for range r.Intn(3) {
		l = append(l, with(api.Node{Kind: api.NUse, Name: g.name(), Text: g.name(), N: int64(r.Intn(api.MaxParams + 1))}))
	}
	for g.left > 0 && r.Intn(20) > 0 {
		l = append(l, g.function(api.Node{Kind: api.NFun, Name: g.name()}, 2))
	}
	return with(api.Node{Kind: api.NModule, Name: g.name(), N: 1 + int64(r.Intn(1<<31-1))}, l...)
}

func with(n api.Node, below ...[]api.Node) []api.Node {
	n.Kids = len(below)
	return slices.Concat([]api.Node{n}, slices.Concat(below...))
}

func (g *grower) name() string {
	names := []string{"a", "b", "m", "f", "x1", "fnx", "lets", "a_b", "sixteen_letters_"}
	return names[g.r.Intn(len(names))]
}

func (g *grower) function(n api.Node, depth int) []api.Node {
	var l [][]api.Node
	for range max(0, g.r.Intn(api.MaxParams+5)-4) {
		l = append(l, with(api.Node{Kind: api.NParam, Name: g.name()}))
	}
	return with(n, append(l, g.block(depth+1))...)
}

func (g *grower) block(depth int) []api.Node {
	var l [][]api.Node
	for g.r.Intn(4) > 0 && depth < api.MaxDepth-20 {
		l = append(l, g.stmt(depth+1))
	}
	return with(api.Node{Kind: api.NBlock}, l...)
}

func (g *grower) stmt(depth int) []api.Node {
	g.left--
	n := api.Node{Kind: api.NLet + g.r.Intn(api.NDo-api.NLet+1)}
	d := depth + 1
	switch n.Kind {
	case api.NLet, api.NAssign:
		n.Name = g.name()
		return with(n, g.expr(d))
	case api.NStore:
		return with(n, g.expr(d), g.expr(d), g.expr(d))
	case api.NIf:
		if g.r.Intn(2) == 0 {
			return with(n, g.expr(d), g.block(d), g.block(d))
		}
		return with(n, g.expr(d), g.block(d))
	case api.NWhile:
		return with(n, g.expr(d), g.block(d))
	case api.NBreak, api.NContinue, api.NYield:
		return with(n)
	}
	return with(n, g.expr(d))
}

func (g *grower) expr(depth int) []api.Node {
	g.left--
	n := api.Node{Kind: api.NNil + g.r.Intn(api.NSpawn-api.NNil+1)}
	if g.left < 0 || depth > api.MaxDepth-8 {
		n.Kind = []int{api.NNil, api.NInt, api.NText, api.NName, api.NTable, api.NState}[g.r.Intn(6)]
	} else if g.r.Intn(3) == 0 {
		n.Kind = api.NBin
	}
	d := depth + 1
	switch n.Kind {
	case api.NInt:
		n.N = []int64{0, 1, 2, 10, 1 << 40, math.MaxInt64}[g.r.Intn(6)]
	case api.NText:
		n.Text = []string{"", "a", "\"", "\\", "\n", "#", "nil", "\xff\x00"}[g.r.Intn(8)]
	case api.NName:
		n.Name = g.name()
	case api.NCall:
		return with(n, g.exprs(1+g.few(), d)...)
	case api.NOuter:
		n.Name, n.Text = g.name(), g.name()
		return with(n, g.exprs(g.few(), d)...)
	case api.NFn:
		return g.function(n, d)
	case api.NIndex:
		return with(n, g.exprs(2, d)...)
	case api.NBin:
		ops := slices.Concat(levels...)
		n.Text = ops[g.r.Intn(len(ops))]
		return with(n, g.exprs(2, d)...)
	case api.NUn:
		n.Text = []string{"-", "not", "len"}[g.r.Intn(3)]
		return with(n, g.expr(d))
	case api.NSpawn:
		return with(n, g.expr(d))
	}
	return with(n)
}

// few returns a number of arguments, mostly a small one.
func (g *grower) few() int {
	return g.r.Intn([]int{2, 3, api.MaxParams + 1}[g.r.Intn(3)])
}

func (g *grower) exprs(n, depth int) [][]api.Node {
	var l [][]api.Node
	for range n {
		l = append(l, g.expr(depth))
	}
	return l
}

// spread returns the text of the tokens with blanks and comments around them.
func spread(r *rand.Rand, l []api.Token) string {
	blanks := []string{" ", "\t", "\n", "\r", "  \n", "# a = \"\n", " #\n", "#;}{\n\t"}
	var out strings.Builder
	for _, t := range l {
		for n := r.Intn(3); n >= 0; n-- {
			out.WriteString(blanks[r.Intn(len(blanks))])
		}
		out.WriteString(lex.Text([]api.Token{t}))
	}
	if r.Intn(2) == 0 {
		out.WriteString(" # end")
	}
	return out.String()
}

func TestRandomTrees(t *testing.T) {
	r := rand.New(rand.NewSource(2))
	rounds := 2000
	if testing.Short() {
		rounds = 500
	}
	for range rounds {
		want := randomModule(r, 1+r.Intn(300))
		if err, at := tree.Check(want); err != api.OK {
			t.Fatalf("the tree of the test is not valid: %d, %d", err, at)
		}
		p := &printer{r: r}
		l := p.print(want)
		got, err, at := parse.Tree(l)
		if !slices.Equal(got, want) || err != api.OK || at != 0 {
			t.Fatalf("Tree of %s = %s, %d, %d; want %s", lex.Text(l), dump(got), err, at, dump(want))
		}
		for _, s := range []string{lex.Text(l), spread(r, l)} {
			if len(s) > api.MaxText {
				continue
			}
			if got, err, at := parse.Text(s); !slices.Equal(got, want) || err != api.OK || at != 0 {
				t.Fatalf("Text(%q) = %s, %d, %d; want %s", s, dump(got), err, at, dump(want))
			}
		}
	}
}
