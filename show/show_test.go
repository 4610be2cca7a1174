package show_test

import (
	"math"
	"math/rand"
	"slices"
	"strconv"
	"strings"
	"testing"

	"chrysalis/api"
	"chrysalis/lex"
	"chrysalis/parse"
	"chrysalis/show"
	"chrysalis/tree"
)

// with returns the tree of a node with these trees below it.
func with(n api.Node, below ...[]api.Node) []api.Node {
	n.Kids = len(below)
	return slices.Concat([]api.Node{n}, slices.Concat(below...))
}

// plain returns a node the only field of which is its kind, with these trees below it.
func plain(kind int, below ...[]api.Node) []api.Node {
	return with(api.Node{Kind: kind}, below...)
}

// named returns a node with a name, with these trees below it.
func named(kind int, name string, below ...[]api.Node) []api.Node {
	return with(api.Node{Kind: kind, Name: name}, below...)
}

func number(n int64) []api.Node {
	return with(api.Node{Kind: api.NInt, N: n})
}

func text(s string) []api.Node {
	return with(api.Node{Kind: api.NText, Text: s})
}

func name(s string) []api.Node {
	return named(api.NName, s)
}

func outer(module, function string, args ...[]api.Node) []api.Node {
	return with(api.Node{Kind: api.NOuter, Name: module, Text: function}, args...)
}

func bin(op string, a, b []api.Node) []api.Node {
	return with(api.Node{Kind: api.NBin, Text: op}, a, b)
}

func un(op string, a []api.Node) []api.Node {
	return with(api.Node{Kind: api.NUn, Text: op}, a)
}

func use(module, function string, params int64) []api.Node {
	return with(api.Node{Kind: api.NUse, Name: module, Text: function, N: params})
}

func param(s string) []api.Node {
	return named(api.NParam, s)
}

func block(stmts ...[]api.Node) []api.Node {
	return plain(api.NBlock, stmts...)
}

func module(below ...[]api.Node) []api.Node {
	return with(api.Node{Kind: api.NModule, Name: "m", N: 1}, below...)
}

// within returns a module whose only function contains these statements.
func within(stmts ...[]api.Node) []api.Node {
	return module(named(api.NFun, "f", block(stmts...)))
}

const (
	before = "module m 1 ; fn f ( ) { "
	after  = " }"
)

// checkShown compares what Tokens and Text return for a valid tree with a text, in which one blank separates the tokens.
func checkShown(t *testing.T, l []api.Node, want string) {
	t.Helper()
	got, err, at := show.Text(l)
	if got != want || err != api.OK || at != 0 {
		t.Errorf("Text = %q, %d, %d; want %q", got, err, at, want)
	}
	tokens, err, at := show.Tokens(l)
	if !slices.Equal(tokens, scan(t, want)) || err != api.OK || at != 0 {
		t.Errorf("Tokens = %v, %d, %d; want those of %q", tokens, err, at, want)
	}
	if again, err, at := parse.Text(got); !slices.Equal(again, l) || err != api.OK || at != 0 {
		t.Errorf("parse.Text(%q) = %v, %d, %d; want %v", got, again, err, at, l)
	}
}

// scan returns the tokens of a text without their offsets.
func scan(t *testing.T, s string) []api.Token {
	t.Helper()
	l, err, at := lex.Scan(s)
	if err != api.OK {
		t.Fatalf("Scan(%q) = %d, %d", s, err, at)
	}
	for i := range l {
		l[i].At = 0
	}
	return l
}

func checkStmts(t *testing.T, want string, stmts ...[]api.Node) {
	t.Helper()
	checkShown(t, within(stmts...), before+want+after)
}

// checkExpr compares what Expr returns for an expression, and Text for a statement that contains it.
func checkExpr(t *testing.T, want string, e []api.Node) {
	t.Helper()
	if got := show.Expr(e); got != want {
		t.Errorf("Expr(%v) = %q; want %q", e, got, want)
	}
	checkStmts(t, "return "+want+" ;", plain(api.NReturn, e))
}

// checkError compares the error of Tokens and Text with the wanted one.
func checkError(t *testing.T, what string, l []api.Node, want api.Errno, wantAt int) {
	t.Helper()
	if tokens, err, at := show.Tokens(l); tokens != nil || err != want || at != wantAt {
		t.Errorf("Tokens of %s = %v, %d, %d; want error %d at %d", what, tokens, err, at, want, wantAt)
	}
	if s, err, at := show.Text(l); s != "" || err != want || at != wantAt {
		t.Errorf("Text of %s = %q, %d, %d; want error %d at %d", what, s, err, at, want, wantAt)
	}
}

// Example of the chapter

func TestExample(t *testing.T) {
	l, err, _ := parse.Text("module m 1; fn f(a) { return a + 1 * 2; }")
	if err != api.OK {
		t.Fatal(err)
	}
	checkShown(t, l, "module m 1 ; fn f ( a ) { return ( a + ( 1 * 2 ) ) ; }")
}

// P11.1: modules, statements and expressions

func TestModules(t *testing.T) {
	checkShown(t, module(), "module m 1 ;")
	checkShown(t, with(api.Node{Kind: api.NModule, Name: "sixteen_letters_", N: 1<<31 - 1}), "module sixteen_letters_ 2147483647 ;")
	checkShown(t, module(use("a", "b", 0), use("m", "f", 8)), "module m 1 ; use a . b / 0 ; use m . f / 8 ;")
	f := named(api.NFun, "f", block())
	g := named(api.NFun, "g", param("a"), block())
	h := named(api.NFun, "h", param("a"), param("b"), param("a"), block())
	checkShown(t, module(f), "module m 1 ; fn f ( ) { }")
	checkShown(t, module(f, g, h), "module m 1 ; fn f ( ) { } fn g ( a ) { } fn h ( a , b , a ) { }")
	checkShown(t, module(use("x", "y", 2), h, f), "module m 1 ; use x . y / 2 ; fn h ( a , b , a ) { } fn f ( ) { }")
	var params [][]api.Node
	for _, s := range strings.Fields("a b c d e f g h") {
		params = append(params, param(s))
	}
	checkShown(t, module(named(api.NFun, "f", append(params, block())...)), "module m 1 ; fn f ( a , b , c , d , e , f , g , h ) { }")
}

func TestStatements(t *testing.T) {
	one, two, three := number(1), number(2), number(3)
	stop := plain(api.NBreak)
	checkShown(t, within(), "module m 1 ; fn f ( ) { }")
	checkStmts(t, "let a = 1 ;", named(api.NLet, "a", one))
	checkStmts(t, "a = 1 ;", named(api.NAssign, "a", one))
	checkStmts(t, "1 [ 2 ] = 3 ;", plain(api.NStore, one, two, three))
	checkStmts(t, "if 1 { }", plain(api.NIf, one, block()))
	checkStmts(t, "if 1 { break ; }", plain(api.NIf, one, block(stop)))
	checkStmts(t, "if 1 { } else { }", plain(api.NIf, one, block(), block()))
	checkStmts(t, "if 1 { break ; } else { break ; break ; }", plain(api.NIf, one, block(stop), block(stop, stop)))
	checkStmts(t, "while 1 { }", plain(api.NWhile, one, block()))
	checkStmts(t, "while 1 { break ; }", plain(api.NWhile, one, block(stop)))
	checkStmts(t, "break ;", stop)
	checkStmts(t, "continue ;", plain(api.NContinue))
	checkStmts(t, "yield ;", plain(api.NYield))
	checkStmts(t, "return 1 ;", plain(api.NReturn, one))
	checkStmts(t, "put 1 ;", plain(api.NPut, one))
	checkStmts(t, "emit 1 ;", plain(api.NEmit, one))
	checkStmts(t, "1 ;", plain(api.NDo, one))
	checkStmts(t, "1 ; yield ; 2 ;", plain(api.NDo, one), plain(api.NYield), plain(api.NDo, two))
	// What an else belongs to is told by the braces.
	inner := plain(api.NIf, two, block())
	checkStmts(t, "if 1 { if 2 { } } else { }", plain(api.NIf, one, block(inner), block()))
	checkStmts(t, "if 1 { if 2 { } else { } }", plain(api.NIf, one, block(plain(api.NIf, two, block(), block()))))
	checkStmts(t, "if 1 { } else { if 2 { } }", plain(api.NIf, one, block(), block(inner)))
	checkStmts(t, "while { } { { } ; }", plain(api.NWhile, plain(api.NTable), block(plain(api.NDo, plain(api.NTable)))))
}

func TestExpressions(t *testing.T) {
	a, b, c := name("a"), name("b"), name("c")
	checkExpr(t, "nil", plain(api.NNil))
	checkExpr(t, "state", plain(api.NState))
	checkExpr(t, "0", number(0))
	checkExpr(t, "10", number(10))
	checkExpr(t, "9223372036854775807", number(math.MaxInt64))
	checkExpr(t, "a_1", name("a_1"))
	checkExpr(t, "{ }", plain(api.NTable))
	checkExpr(t, "fn ( ) { }", plain(api.NFn, block()))
	checkExpr(t, "fn ( a ) { yield ; }", plain(api.NFn, param("a"), block(plain(api.NYield))))
	checkExpr(t, "fn ( a , b , c ) { }", plain(api.NFn, param("a"), param("b"), param("c"), block()))
	checkExpr(t, "a [ b ]", plain(api.NIndex, a, b))
	checkExpr(t, "a [ b [ c ] ]", plain(api.NIndex, a, plain(api.NIndex, b, c)))
	checkExpr(t, "a [ b ] [ c ]", plain(api.NIndex, plain(api.NIndex, a, b), c))
	checkExpr(t, "a ( )", plain(api.NCall, a))
	checkExpr(t, "a ( b )", plain(api.NCall, a, b))
	checkExpr(t, "a ( b , c , a )", plain(api.NCall, a, b, c, a))
	checkExpr(t, "a ( b , b , b , b , b , b , b , b )", plain(api.NCall, a, b, b, b, b, b, b, b, b))
	checkExpr(t, "a ( b ) ( c )", plain(api.NCall, plain(api.NCall, a, b), c))
	checkExpr(t, "a ( b ( ) , c )", plain(api.NCall, a, plain(api.NCall, b), c))
	checkExpr(t, "m . g ( )", outer("m", "g"))
	checkExpr(t, "m . g ( a )", outer("m", "g", a))
	checkExpr(t, "m . g ( a , b , c )", outer("m", "g", a, b, c))
	checkExpr(t, "m . g ( ) ( a ) [ b ]", plain(api.NIndex, plain(api.NCall, outer("m", "g"), a), b))
	checkExpr(t, "fn ( ) { } ( a )", plain(api.NCall, plain(api.NFn, block()), a))
	checkExpr(t, "( spawn a )", plain(api.NSpawn, a))
	checkExpr(t, "( spawn fn ( ) { } )", plain(api.NSpawn, plain(api.NFn, block())))
	checkExpr(t, "( spawn a ) ( b )", plain(api.NCall, plain(api.NSpawn, a), b))
}

func TestOperators(t *testing.T) {
	a, b, c := name("a"), name("b"), name("c")
	for _, op := range strings.Fields("+ - * / % .. == != < <= and or") {
		checkExpr(t, "( a "+op+" b )", bin(op, a, b))
		// Parentheses are never left out, whether they are needed or not.
		for _, other := range strings.Fields("+ - * / % .. == != < <= and or") {
			checkExpr(t, "( ( a "+op+" b ) "+other+" c )", bin(other, bin(op, a, b), c))
			checkExpr(t, "( a "+op+" ( b "+other+" c ) )", bin(op, a, bin(other, b, c)))
		}
		for _, unary := range strings.Fields("- not len") {
			checkExpr(t, "( "+unary+" ( a "+op+" b ) )", un(unary, bin(op, a, b)))
			checkExpr(t, "( ( "+unary+" a ) "+op+" ( "+unary+" b ) )", bin(op, un(unary, a), un(unary, b)))
		}
	}
	for _, op := range strings.Fields("- not len") {
		checkExpr(t, "( "+op+" a )", un(op, a))
		checkExpr(t, "( "+op+" ( "+op+" a ) )", un(op, un(op, a)))
		checkExpr(t, "( "+op+" a [ b ] )", un(op, plain(api.NIndex, a, b)))
		checkExpr(t, "( "+op+" a ) [ b ]", plain(api.NIndex, un(op, a), b))
		checkExpr(t, "( "+op+" ( spawn a ) )", un(op, plain(api.NSpawn, a)))
		checkExpr(t, "( spawn ( "+op+" a ) )", plain(api.NSpawn, un(op, a)))
	}
}

func TestTexts(t *testing.T) {
	for _, c := range []struct{ content, want string }{
		{"", `""`},
		{"a", `"a"`},
		{"a b  c", `"a b  c"`},
		{"\"", `"\""`},
		{"\\", `"\\"`},
		{"\n", `"\n"`},
		{"n\\n\n\"", `"n\\n\n\""`},
		// Nothing in a text is a comment, a keyword, a mark or an integer.
		{"# a", `"# a"`},
		{"nil", `"nil"`},
		{"( )", `"( )"`},
		{"7", `"7"`},
		{"\t\r\x00", "\"\t\r\x00\""},
		{"ä\xff\xfe", "\"ä\xff\xfe\""},
		{strings.Repeat("\"", api.MaxString), `"` + strings.Repeat(`\"`, api.MaxString) + `"`},
	} {
		checkExpr(t, c.want, text(c.content))
	}
}

// The fields of the tokens are written out here, as all else compares them with those that lex.Scan returns.
func TestFieldsOfTokens(t *testing.T) {
	l := module(use("a", "b", 2), named(api.NFun, "f", param("p"), block(
		plain(api.NEmit, bin("and", bin("<=", text("x\n\"1"), number(30)), un("not", plain(api.NTable)))),
	)))
	got, err, at := show.Tokens(l)
	want := []api.Token{
		{Kind: api.TKey, Text: "module"}, {Kind: api.TName, Text: "m"}, {Kind: api.TInt, Text: "1", N: 1}, {Kind: api.TMark, Text: ";"},
		{Kind: api.TKey, Text: "use"}, {Kind: api.TName, Text: "a"}, {Kind: api.TMark, Text: "."}, {Kind: api.TName, Text: "b"},
		{Kind: api.TMark, Text: "/"}, {Kind: api.TInt, Text: "2", N: 2}, {Kind: api.TMark, Text: ";"},
		{Kind: api.TKey, Text: "fn"}, {Kind: api.TName, Text: "f"}, {Kind: api.TMark, Text: "("}, {Kind: api.TName, Text: "p"}, {Kind: api.TMark, Text: ")"},
		{Kind: api.TMark, Text: "{"}, {Kind: api.TKey, Text: "emit"},
		{Kind: api.TMark, Text: "("}, {Kind: api.TMark, Text: "("}, {Kind: api.TText, Text: "x\n\"1"}, {Kind: api.TMark, Text: "<="},
		{Kind: api.TInt, Text: "30", N: 30}, {Kind: api.TMark, Text: ")"}, {Kind: api.TKey, Text: "and"},
		{Kind: api.TMark, Text: "("}, {Kind: api.TKey, Text: "not"}, {Kind: api.TMark, Text: "{"}, {Kind: api.TMark, Text: "}"},
		{Kind: api.TMark, Text: ")"}, {Kind: api.TMark, Text: ")"}, {Kind: api.TMark, Text: ";"}, {Kind: api.TMark, Text: "}"},
	}
	if !slices.Equal(got, want) || err != api.OK || at != 0 {
		t.Errorf("Tokens = %v, %d, %d; want %v", got, err, at, want)
	}
}

// P11.1: the errors of tree.Check

func TestErrorsOfCheck(t *testing.T) {
	checkError(t, "nil", nil, api.ErrShort, 0)
	checkError(t, "an empty list", []api.Node{}, api.ErrShort, 0)
	l := within(plain(api.NEmit, bin("+", number(1), name("a"))), plain(api.NBreak))
	checkShown(t, l, before+"emit ( 1 + a ) ; break ;"+after)
	for i := range l {
		checkError(t, "a beginning of a module", l[:i], api.ErrShort, 0)
		spoiled := slices.Clone(l)
		spoiled[i].Kids = -1
		checkError(t, "a module with a negative number of children", spoiled, api.ErrShort, 0)
		spoiled[i].Kids = math.MaxInt
		checkError(t, "a module with a great number of children", spoiled, api.ErrShort, 0)
		spoiled = slices.Clone(l)
		spoiled[i].N = -1
		checkError(t, "a module with a negative number", spoiled, api.ErrForm, i)
		for j := i; j < len(l); j++ {
			spoiled[j].Text = "?"
		}
		checkError(t, "a module with several faults", spoiled, api.ErrForm, i)
	}
	checkError(t, "two modules", slices.Concat(l, l), api.ErrShort, 0)
	checkError(t, "a function", l[1:], api.ErrForm, 0)
	checkError(t, "an expression", bin("+", number(1), number(2)), api.ErrForm, 0)
	checkError(t, "a node of no kind", make([]api.Node, 1), api.ErrForm, 0)
	checkError(t, "a statement as an expression", within(plain(api.NDo, plain(api.NBreak))), api.ErrForm, 3)
	checkError(t, "a use after a function", module(named(api.NFun, "f", block()), use("a", "b", 0)), api.ErrForm, 0)
	checkError(t, "an unknown operator", within(plain(api.NDo, bin(">", number(1), number(2)))), api.ErrForm, 4)
	checkError(t, "a long text", within(plain(api.NDo, text(strings.Repeat("a", api.MaxString+1)))), api.ErrForm, 4)
	checkError(t, "a keyword as a name", within(plain(api.NDo, name("len"))), api.ErrForm, 4)
}

// breaks returns that many statements.
func breaks(n int) [][]api.Node {
	return slices.Repeat([][]api.Node{plain(api.NBreak)}, n)
}

// negated returns an expression with that Depth.
func negated(depth int) []api.Node {
	e := name("a")
	for range depth - 1 {
		e = un("-", e)
	}
	return e
}

func TestLimitsOfCheck(t *testing.T) {
	const around = 3 // NModule, NFun, NBlock
	const depth = api.MaxDepth - around - 1
	checkStmts(t, "emit "+strings.Repeat("( - ", depth-1)+"a"+strings.Repeat(" )", depth-1)+" ;", plain(api.NEmit, negated(depth)))
	checkError(t, "a deep tree", within(plain(api.NEmit, negated(depth+1))), api.ErrBig, 0)
	// So many nodes are too long as a text, but Tokens knows no such limit.
	l := within(breaks(api.MaxNodes - around)...)
	tokens, err, at := show.Tokens(l)
	want := slices.Concat(scan(t, before), slices.Repeat(scan(t, "break ;"), api.MaxNodes-around), scan(t, after))
	if !slices.Equal(tokens, want) || err != api.OK || at != 0 {
		t.Errorf("Tokens of MaxNodes nodes = %d tokens, %d, %d; want %d", len(tokens), err, at, len(want))
	}
	checkError(t, "more than MaxNodes nodes", within(breaks(api.MaxNodes-around+1)...), api.ErrBig, 0)
	checkError(t, "many odd nodes", make([]api.Node, api.MaxNodes+1), api.ErrBig, 0)
}

// P11.1: the length of the text

// sized returns a tree the text of which has that many bytes, most of them those of texts that repeat a unit, and the text.
func sized(size int, unit string) ([]api.Node, string) {
	units := 1010 / (len(lex.Quote(unit)) - len(lex.Quote("")))
	var stmts [][]api.Node
	s := before
	add := func(content string) {
		stmts = append(stmts, plain(api.NEmit, text(content)))
		s += "emit " + lex.Quote(content) + " ; "
	}
	for range 7 {
		add(strings.Repeat(unit, units))
	}
	add(strings.Repeat("a", size-len(s+"emit \"\" ; }")))
	return within(stmts...), s + "}"
}

func TestLengthOfText(t *testing.T) {
	for _, unit := range []string{"a", "\"", "\\", "\n", "ä", "\xff"} {
		for _, size := range []int{api.MaxText - 100, api.MaxText - 1, api.MaxText} {
			l, s := sized(size, unit)
			if len(s) != size {
				t.Fatalf("the text of the test has %d bytes; want %d", len(s), size)
			}
			checkShown(t, l, s)
		}
		for _, size := range []int{api.MaxText + 1, api.MaxText + 2} {
			l, _ := sized(size, unit)
			checkTooLong(t, l)
		}
	}
	checkTooLong(t, within(breaks(1500)...))
	checkTooLong(t, within(slices.Repeat([][]api.Node{plain(api.NDo, text(strings.Repeat("\"", api.MaxString)))}, 900)...))
}

// checkTooLong expects that a tree has tokens, but no text.
func checkTooLong(t *testing.T, l []api.Node) {
	t.Helper()
	if s, err, at := show.Text(l); s != "" || err != api.ErrBig || at != 0 {
		t.Errorf("Text of a long tree = %d bytes, %d, %d; want error %d at 0", len(s), err, at, api.ErrBig)
	}
	tokens, err, at := show.Tokens(l)
	if err != api.OK || at != 0 || len(lex.Text(tokens)) <= api.MaxText {
		t.Errorf("Tokens of a long tree = %d tokens, %d, %d", len(tokens), err, at)
	}
	if again, err, at := parse.Tree(tokens); !slices.Equal(again, l) || err != api.OK || at != 0 {
		t.Errorf("parse.Tree of the tokens of a long tree = %d nodes, %d, %d", len(again), err, at)
	}
}

// P11.2: Expr

func checkNoExpr(t *testing.T, what string, l []api.Node) {
	t.Helper()
	if got := show.Expr(l); got != "" {
		t.Errorf("Expr of %s = %q; want none", what, got)
	}
}

func TestExprReadsOneTree(t *testing.T) {
	e := bin("+", number(1), un("-", name("a")))
	const want = "( 1 + ( - a ) )"
	for _, rest := range [][]api.Node{nil, number(2), e, within(), plain(api.NBreak), {{}}, {{Kids: -1}}, {{Kids: math.MaxInt}}, make([]api.Node, 3*api.MaxNodes)} {
		if got := show.Expr(slices.Concat(e, rest)); got != want {
			t.Errorf("Expr of a tree and %d nodes after it = %q; want %q", len(rest), got, want)
		}
	}
	if got := show.Expr(e[1:]); got != "1" {
		t.Errorf("Expr of the last operands = %q; want 1", got)
	}
	for i := range e {
		// The rest of the tree stands in the spare capacity.
		checkNoExpr(t, "a beginning of a tree", e[:i])
		spoiled := slices.Clone(e)
		for _, kids := range []int{-1, math.MinInt, math.MaxInt, e[i].Kids + 1} {
			spoiled[i].Kids = kids
			checkNoExpr(t, "an incomplete tree", spoiled)
		}
	}
	checkNoExpr(t, "nil", nil)
	checkNoExpr(t, "an empty list", []api.Node{})
}

func TestExprRefusesWhatIsNoExpression(t *testing.T) {
	one := number(1)
	for _, l := range [][]api.Node{
		module(), within(plain(api.NDo, one)), use("a", "b", 0), named(api.NFun, "f", block()), param("a"), block(),
		named(api.NLet, "a", one), named(api.NAssign, "a", one), plain(api.NStore, one, one, one), plain(api.NIf, one, block()),
		plain(api.NWhile, one, block()), plain(api.NBreak), plain(api.NContinue), plain(api.NReturn, one), plain(api.NPut, one),
		plain(api.NEmit, one), plain(api.NYield), plain(api.NDo, one),
	} {
		checkNoExpr(t, "a node of the kind "+strconv.Itoa(l[0].Kind), l)
		checkNoExpr(t, "a node of that kind before an expression", slices.Concat(l, one))
	}
	for _, kind := range []int{math.MinInt, -1, 0, api.NSpawn + 1, 1<<32 + api.NNil, math.MaxInt} {
		checkNoExpr(t, "a node of the kind "+strconv.Itoa(kind), plain(kind))
	}
}

func TestExprRefusesInvalidTrees(t *testing.T) {
	one := number(1)
	long := strings.Repeat("a", api.MaxString+1)
	for _, l := range [][]api.Node{
		number(-1), text(long), name(""), name("fn"), name("A"), name("a_name_that_is_17"), outer("", "g"), outer("m", "use"), bin("", one, one), bin("not", one, one), un("+", one),
		plain(api.NBin, one, one), plain(api.NUn, one), plain(api.NNil, one), plain(api.NIndex, one), plain(api.NIndex, one, one, one), plain(api.NCall),
		plain(api.NCall, slices.Repeat([][]api.Node{one}, api.MaxParams+2)...), outer("m", "g", slices.Repeat([][]api.Node{one}, api.MaxParams+1)...),
		plain(api.NFn), plain(api.NFn, block(), block()), plain(api.NFn, append(slices.Repeat([][]api.Node{param("a")}, api.MaxParams+1), block())...),
		plain(api.NSpawn), plain(api.NSpawn, plain(api.NBreak)), plain(api.NSpawn, one, one), named(api.NNil, "a"), {{Kind: api.NState, N: 1}}, {{Kind: api.NTable, Text: "{}"}},
	} {
		checkNoExpr(t, "an invalid tree of the kind "+strconv.Itoa(l[0].Kind), l)
		checkNoExpr(t, "an operator and an invalid tree", un("-", l))
		checkNoExpr(t, "an invalid tree in a function", plain(api.NFn, block(plain(api.NDo, one), plain(api.NDo, l))))
	}
}

func TestLimitsOfExpr(t *testing.T) {
	const around = 4 // NModule, NFun, NBlock, NReturn
	const depth = api.MaxDepth - around
	checkExpr(t, strings.Repeat("( - ", depth-1)+"a"+strings.Repeat(" )", depth-1), negated(depth))
	checkNoExpr(t, "a deep tree", negated(depth+1))
	const inner = api.MaxNodes - around - 2 // NFn, NBlock
	if got, want := show.Expr(plain(api.NFn, block(breaks(inner)...))), "fn ( ) { "+strings.Repeat("break ; ", inner)+"}"; got != want {
		t.Errorf("Expr of a large tree has %d bytes; want %d", len(got), len(want))
	}
	checkNoExpr(t, "a large tree", plain(api.NFn, block(breaks(inner+1)...)))
	checkNoExpr(t, "a very large tree", plain(api.NFn, block(breaks(1<<16)...)))
	// MaxText does not apply to Expr.
	s := strings.Repeat("\n", api.MaxString)
	if got, want := show.Expr(plain(api.NCall, slices.Repeat([][]api.Node{text(s)}, 9)...)), lex.Quote(s)+" ( "+strings.Repeat(lex.Quote(s)+" , ", 7)+lex.Quote(s)+" )"; got != want {
		t.Errorf("Expr of long texts has %d bytes; want %d", len(got), len(want))
	}
}

// P11.1 to P11.3: all kinds within one another, and random trees

// sentence returns the tokens of a valid node as the chapter lists them, separated by blanks. NAME, TEXT and N are the fields, A, B and C the children, LAST is the last one; LIST are all children from the first on that are not named, with commas between them, and ALL the same without commas.
func sentence(n api.Node) string {
	switch n.Kind {
	case api.NModule:
		return "module NAME N ; ALL"
	case api.NUse:
		return "use NAME . TEXT / N ;"
	case api.NFun:
		return "fn NAME ( LIST ) LAST"
	case api.NBlock:
		return "{ ALL }"
	case api.NLet:
		return "let NAME = A ;"
	case api.NAssign:
		return "NAME = A ;"
	case api.NStore:
		return "A [ B ] = C ;"
	case api.NIf:
		if n.Kids == 3 {
			return "if A B else C"
		}
		return "if A B"
	case api.NWhile:
		return "while A B"
	case api.NBreak:
		return "break ;"
	case api.NContinue:
		return "continue ;"
	case api.NYield:
		return "yield ;"
	case api.NReturn:
		return "return A ;"
	case api.NPut:
		return "put A ;"
	case api.NEmit:
		return "emit A ;"
	case api.NDo:
		return "A ;"
	}
	return sentenceOfExpr(n.Kind)
}

func sentenceOfExpr(kind int) string {
	switch kind {
	case api.NNil:
		return "nil"
	case api.NState:
		return "state"
	case api.NInt:
		return "N"
	case api.NText:
		return "QUOTE"
	case api.NTable:
		return "{ }"
	case api.NFn:
		return "fn ( LIST ) LAST"
	case api.NIndex:
		return "A [ B ]"
	case api.NCall:
		return "A ( LIST )"
	case api.NOuter:
		return "NAME . TEXT ( LIST )"
	case api.NBin:
		return "( A TEXT B )"
	case api.NUn:
		return "( TEXT A )"
	case api.NSpawn:
		return "( spawn A )"
	}
	return "NAME" // NParam, NName
}

// refText replaces the words in capitals of the sentences, from the root down.
func refText(l []api.Node) string {
	var below []string
	for _, i := range tree.Kids(l, 0) {
		below = append(below, refText(tree.Sub(l, i)))
	}
	all := below
	var out []string
	add := func(s string) {
		if s != "" {
			out = append(out, s)
		}
	}
	words := strings.Fields(sentence(l[0]))
	if slices.Contains(words, "LAST") {
		below = below[:len(below)-1]
	}
	for _, word := range words {
		switch word {
		case "NAME":
			add(l[0].Name)
		case "TEXT":
			add(l[0].Text)
		case "QUOTE":
			add(lex.Quote(l[0].Text))
		case "N":
			add(strconv.FormatInt(l[0].N, 10))
		case "A", "B", "C":
			add(below[0])
			below = below[1:]
		case "LIST":
			add(strings.Join(below, " , "))
		case "ALL":
			add(strings.Join(below, " "))
		case "LAST":
			add(all[len(all)-1])
		default:
			add(word)
		}
	}
	return strings.Join(out, " ")
}

// grower makes random valid trees: leaves only, once there are no nodes left.
type grower struct {
	r    *rand.Rand
	left int
}

func (g *grower) grow(kind, depth int) []api.Node {
	g.left--
	return with(g.node(kind), g.forest(g.classes(kind), depth+1)...)
}

// forest returns a tree for each class of kinds.
func (g *grower) forest(classes string, depth int) [][]api.Node {
	leaf := g.left < 0 || depth > api.MaxDepth-10
	var l [][]api.Node
	for _, class := range classes {
		l = append(l, g.grow(pick(g.r, kindsOf(class, leaf)), depth))
	}
	return l
}

// classes returns the classes of the children that a node of that kind has: u a use, f a function, p a parameter, b a block, s a statement and e an expression.
func (g *grower) classes(kind int) string {
	some := func(class string, most int) string {
		return strings.Repeat(class, g.r.Intn(most+1))
	}
	few := pick(g.r, []int{1, 2, api.MaxParams})
	switch kind {
	case api.NModule:
		return some("u", 3) + some("f", 5)
	case api.NFun, api.NFn:
		return some("p", few) + "b"
	case api.NBlock:
		return some("s", pick(g.r, []int{2, 4, 20}))
	case api.NLet, api.NAssign, api.NReturn, api.NPut, api.NEmit, api.NDo, api.NUn, api.NSpawn:
		return "e"
	case api.NIndex, api.NBin:
		return "ee"
	case api.NStore:
		return "eee"
	case api.NIf:
		return "eb" + some("b", 1)
	case api.NWhile:
		return "eb"
	case api.NCall:
		return "e" + some("e", few)
	case api.NOuter:
		return some("e", few)
	}
	return ""
}

func kindsOf(class rune, leaf bool) []int {
	switch class {
	case 'u':
		return []int{api.NUse}
	case 'f':
		return []int{api.NFun}
	case 'p':
		return []int{api.NParam}
	case 'b':
		return []int{api.NBlock}
	case 's':
		if leaf {
			return []int{api.NBreak, api.NContinue, api.NYield}
		}
		return []int{api.NLet, api.NAssign, api.NStore, api.NIf, api.NWhile, api.NBreak, api.NContinue, api.NReturn, api.NPut, api.NEmit, api.NYield, api.NDo}
	}
	leaves := []int{api.NNil, api.NInt, api.NText, api.NName, api.NTable, api.NState}
	if leaf {
		return leaves
	}
	return append(leaves, api.NCall, api.NOuter, api.NFn, api.NIndex, api.NBin, api.NBin, api.NUn, api.NSpawn)
}

func pick[T any](r *rand.Rand, l []T) T {
	return l[r.Intn(len(l))]
}

// node returns a node of that kind with valid fields.
func (g *grower) node(kind int) api.Node {
	n := api.Node{Kind: kind}
	names := strings.Fields("a b m f x1 fnx lets a_b sixteen_letters_ z")
	switch kind {
	case api.NModule:
		n.Name, n.N = pick(g.r, names), 1+g.r.Int63n(1<<31-1)
	case api.NUse:
		n.Name, n.Text, n.N = pick(g.r, names), pick(g.r, names), g.r.Int63n(api.MaxParams+1)
	case api.NFun, api.NParam, api.NLet, api.NAssign, api.NName:
		n.Name = pick(g.r, names)
	case api.NOuter:
		n.Name, n.Text = pick(g.r, names), pick(g.r, names)
	case api.NInt:
		n.N = pick(g.r, []int64{0, 1, 9, 10, 1 << 40, math.MaxInt64, g.r.Int63()})
	case api.NText:
		n.Text = pick(g.r, []string{"", "a", "\"", "\\", "\n", "#", "nil", "1 ;", "\xff\x00", strings.Repeat("\\n", 20)})
	case api.NBin:
		n.Text = pick(g.r, strings.Fields("+ - * / % .. == != < <= and or"))
	case api.NUn:
		n.Text = pick(g.r, strings.Fields("- not len"))
	}
	return n
}

func TestAllKindsWithinOneAnother(t *testing.T) {
	g := &grower{r: rand.New(rand.NewSource(1))}
	exprs := kindsOf('e', false)
	for _, outside := range slices.Concat(kindsOf('s', false), exprs) {
		for range 20 {
			classes := g.classes(outside)
			for i, class := range classes {
				for _, inside := range kindsOf(class, false) {
					g.left = 0
					below := g.forest(classes, 0)
					below[i] = g.grow(inside, 0)
					l := with(g.node(outside), below...)
					if tree.Expr(outside) {
						checkExpr(t, refText(l), l)
						l = plain(api.NDo, l)
					}
					checkStmts(t, refText(l), l)
				}
			}
		}
		if t.Failed() {
			return
		}
	}
}

// checkRandom compares the results for a random tree, and for some of the trees in it, with those of the sentences of the chapter.
func checkRandom(t *testing.T, l []api.Node) {
	t.Helper()
	want := refText(l)
	tokens, err, at := show.Tokens(l)
	if lex.Text(tokens) != want || err != api.OK || at != 0 {
		t.Errorf("Tokens = %q, %d, %d; want %q", lex.Text(tokens), err, at, want)
	}
	if again, err, at := parse.Tree(tokens); !slices.Equal(again, l) || err != api.OK || at != 0 {
		t.Errorf("parse.Tree of the tokens of %q = %v, %d, %d; want %v", want, again, err, at, l)
	}
	if len(want) <= api.MaxText {
		checkShown(t, l, want)
	} else {
		checkTooLong(t, l)
	}
	for i := 0; i < len(l); i += 1 + len(l)/50 {
		want := ""
		if tree.Expr(l[i].Kind) {
			want = refText(tree.Sub(l, i))
		}
		if got := show.Expr(l[i:]); got != want {
			t.Errorf("Expr of node %d of %q = %q; want %q", i, refText(l), got, want)
		}
	}
}

func TestRandomTrees(t *testing.T) {
	g := &grower{r: rand.New(rand.NewSource(2))}
	rounds := 800
	if testing.Short() {
		rounds = 300
	}
	for range rounds {
		g.left = 1 + g.r.Intn(pick(g.r, []int{20, 200, 3000}))
		l := g.grow(api.NModule, 1)
		if err, at := tree.Check(l); err == api.ErrBig {
			checkError(t, "a large random tree", l, api.ErrBig, 0)
		} else if err != api.OK {
			t.Fatalf("the tree of the test is not valid: %d, %d", err, at)
		} else {
			checkRandom(t, l)
		}
		if t.Failed() {
			return
		}
	}
}

// R1 and P11.1: whatever the nodes are, Tokens and Text end, and return an error if tree.Check does.
func TestSpoiledTrees(t *testing.T) {
	g := &grower{r: rand.New(rand.NewSource(3))}
	rounds := 3000
	if testing.Short() {
		rounds = 500
	}
	for range rounds {
		g.left = g.r.Intn(100)
		l := g.grow(api.NModule, 1)
		for range 1 + g.r.Intn(3) {
			n := &l[g.r.Intn(len(l))]
			switch g.r.Intn(5) {
			case 0:
				n.Kind = g.r.Intn(api.NSpawn + 2)
			case 1:
				n.Kids = pick(g.r, []int{0, 1, 2, 3, -1, math.MaxInt})
			case 2:
				n.Name = pick(g.r, []string{"", "a", "fn"})
			case 3:
				n.N = pick(g.r, []int64{0, 1, 8, 9, -1, math.MinInt64})
			case 4:
				n.Text = pick(g.r, []string{"", "a", "+", "-", "not"})
			}
		}
		if err, at := tree.Check(l); err != api.OK {
			checkError(t, "a spoiled tree", l, err, at)
		} else {
			checkRandom(t, l)
		}
		for i := range l {
			s := show.Expr(l[i:])
			wrapped, _, _ := show.Text(within(plain(api.NReturn, tree.Sub(l, i))))
			if len(s) < api.MaxText-100 && (s != "") != (wrapped != "") || wrapped != "" && wrapped != before+"return "+s+" ;"+after {
				t.Errorf("Expr of node %d of %v = %q; Text of a module with it is %q", i, l, s, wrapped)
			}
		}
		if t.Failed() {
			return
		}
	}
}

// R4: memory

func TestMemory(t *testing.T) {
	l := within(named(api.NLet, "a", bin("..", text("b"), plain(api.NCall, name("c"), number(4)))))
	whole := slices.Concat(l, number(7), make([]api.Node, 3))
	kept := slices.Clone(whole)
	arg := whole[:len(l)]
	first, err, _ := show.Tokens(arg)
	want := slices.Clone(first)
	if len(first) == 0 || err != api.OK {
		t.Fatalf("Tokens = %v, %d", first, err)
	}
	clear(first[:cap(first)])
	second, _, _ := show.Tokens(arg)
	s, _, _ := show.Text(arg)
	e := show.Expr(arg[4:])
	if !slices.Equal(whole, kept) {
		t.Errorf("the argument was changed to %v", whole)
	}
	clear(whole)
	if !slices.Equal(second, want) {
		t.Errorf("Tokens = %v; want %v", second, want)
	}
	if s != before+"let a = "+e+" ;"+after || e != `( "b" .. c ( 4 ) )` {
		t.Errorf("Text = %q, Expr = %q", s, e)
	}
}
