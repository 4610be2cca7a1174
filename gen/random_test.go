package gen_test

import (
	"math/rand"
	"reflect"
	"slices"
	"strconv"
	"strings"
	"testing"

	"chrysalis/api"
	"chrysalis/gen"
	"chrysalis/parse"
)

// owner is a variable with what its values are: integers, tables, or closures with so many parameters.
type owner struct {
	name   string
	of     int
	params int
}

// breeder writes programs at random. Most of what they do is possible.
type breeder struct {
	r       *rand.Rand
	b       strings.Builder
	visible []owner
	// declared counts the variables of each open function, the innermost one last.
	declared []int
	funs     []int
	uses     []int
	loops    int
	left     int
	next     int
}

func (g *breeder) write(parts ...string) {
	for _, p := range parts {
		g.b.WriteString(p)
	}
}

func (g *breeder) name() string {
	g.next++
	return "v" + strconv.Itoa(g.next)
}

func (g *breeder) module() string {
	g.write("module m 1; ")
	for i := range g.r.Intn(3) {
		g.uses = append(g.uses, g.r.Intn(4))
		g.write("use a.b", strconv.Itoa(i), "/", strconv.Itoa(g.uses[i]), "; ")
	}
	for range 1 + g.r.Intn(4) {
		g.funs = append(g.funs, g.r.Intn(4))
	}
	for i, params := range g.funs {
		g.left = 15
		g.write("fn g", strconv.Itoa(i))
		g.function(params)
	}
	return g.b.String()
}

func (g *breeder) function(params int) {
	visible, loops := len(g.visible), g.loops
	g.declared, g.loops = append(g.declared, 0), 0
	var names []string
	for range params {
		names = append(names, g.name())
		g.declare(owner{name: names[len(names)-1], of: api.KInt})
	}
	g.write("(", strings.Join(names, ", "), ") ")
	g.block()
	g.visible, g.loops = g.visible[:visible], loops
	g.declared = g.declared[:len(g.declared)-1]
}

func (g *breeder) declare(o owner) {
	g.visible = append(g.visible, o)
	g.declared[len(g.declared)-1]++
}

func (g *breeder) block() {
	visible := len(g.visible)
	g.write("{ ")
	for g.left > 0 && g.r.Intn(6) > 0 {
		g.left--
		g.stmt()
	}
	g.write("} ")
	g.visible = g.visible[:visible]
}

func (g *breeder) stmt() {
	switch g.r.Intn(16) {
	case 0, 1, 2, 3:
		g.let()
	case 4, 5, 6:
		if o, found := g.pick(g.kind()); found {
			g.write(o.name, " = ")
			g.expr(o.of, o.params, 3)
			g.write("; ")
		}
	case 7:
		g.expr(api.KTable, 0, 2)
		g.write("[")
		g.expr(api.KInt, 0, 2)
		g.write("] = ")
		g.expr(api.KInt, 0, 2)
		g.write("; ")
	case 8, 9:
		g.write("if ")
		g.expr(api.KInt, 0, 3)
		g.block()
		if g.r.Intn(2) == 0 {
			g.write("else ")
			g.block()
		}
	case 10, 11:
		g.write("while ")
		g.expr(api.KInt, 0, 3)
		g.loops++
		g.block()
		g.loops--
	case 12:
		g.jump()
	case 13:
		g.write([]string{"put ", "emit ", ""}[g.r.Intn(3)])
		g.expr(g.kind(), g.r.Intn(3), 3)
		g.write("; ")
	case 14:
		g.write("yield; ")
	case 15:
		g.write("emit spawn fn")
		g.function(0)
		g.write("; ")
	}
}

func (g *breeder) let() {
	if g.declared[len(g.declared)-1] == api.MaxVars {
		return
	}
	o := owner{g.name(), g.kind(), g.r.Intn(3)}
	g.write("let ", o.name, " = ")
	g.expr(o.of, o.params, 3)
	g.write("; ")
	g.declare(o)
}

func (g *breeder) jump() {
	switch n := g.r.Intn(5); {
	case n == 0:
		g.write("return ")
		g.expr(api.KInt, 0, 2)
		g.write("; ")
	case g.loops > 0 && n < 3:
		g.write("break; ")
	case g.loops > 0:
		g.write("continue; ")
	}
}

func (g *breeder) kind() int {
	return []int{api.KInt, api.KInt, api.KInt, api.KTable, api.KFn, api.KFn}[g.r.Intn(6)]
}

// pick returns a visible variable of that kind.
func (g *breeder) pick(of int) (owner, bool) {
	var fits []owner
	for _, o := range g.visible {
		if o.of == of {
			fits = append(fits, o)
		}
	}
	if len(fits) == 0 {
		return owner{}, false
	}
	return fits[g.r.Intn(len(fits))], true
}

// expr writes an expression whose value is most often of that kind.
func (g *breeder) expr(of, params, depth int) {
	if g.r.Intn(60) == 0 {
		of = g.kind()
	}
	for _, o := range g.r.Perm(len(g.visible)) {
		if v := g.visible[o]; v.of == of && v.params == params && g.r.Intn(2) == 0 {
			g.write(v.name, " ")
			return
		}
	}
	switch {
	case of == api.KTable:
		g.write("{} ")
	case of == api.KFn:
		g.write("fn")
		g.function(params)
	case depth == 0:
		g.write(strconv.Itoa(g.r.Intn(5)), " ")
	default:
		g.integer(depth - 1)
	}
}

func (g *breeder) integer(depth int) {
	g.write("(")
	defer g.write(") ")
	switch g.r.Intn(14) {
	case 0, 1, 2, 3, 4, 5:
		ops := []string{"+ ", "- ", "* ", "/ ", "% ", "== ", "!= ", "< ", "<= ", "and ", "or ", "and ", "or "}
		g.expr(api.KInt, 0, depth)
		g.write(ops[g.r.Intn(len(ops))])
		g.expr(api.KInt, 0, depth)
	case 6:
		g.write([]string{"- ", "not "}[g.r.Intn(2)])
		g.expr(api.KInt, 0, depth)
	case 7:
		g.write("len ")
		if g.r.Intn(3) > 0 {
			g.write("(\"ab\" .. \"", strconv.Itoa(g.r.Intn(20)), "\")")
		} else {
			g.expr(api.KTable, 0, depth)
		}
	case 8:
		g.expr(api.KTable, 0, depth)
		g.write("[")
		g.expr(api.KInt, 0, depth)
		g.write("] or 1")
	case 9, 10:
		i := g.r.Intn(len(g.funs))
		g.write("g", strconv.Itoa(i))
		g.args(g.funs[i], depth)
		g.write("or 2")
	case 11, 12:
		params := g.r.Intn(3)
		g.expr(api.KFn, params, depth)
		if g.r.Intn(30) == 0 {
			params++
		}
		g.args(params, depth)
		g.write("or state or 3")
	case 13:
		if len(g.uses) == 0 {
			g.write("nil or 4")
			return
		}
		i := g.r.Intn(len(g.uses))
		g.write("a.b", strconv.Itoa(i))
		g.args(g.uses[i], depth)
	}
}

func (g *breeder) args(params, depth int) {
	g.write("(")
	for i := range params {
		if i > 0 {
			g.write(", ")
		}
		g.expr(api.KInt, 0, depth)
	}
	g.write(") ")
}

func TestRandomPrograms(t *testing.T) {
	r := rand.New(rand.NewSource(1))
	rounds := 4000
	if testing.Short() {
		rounds = 800
	}
	seen := map[string]int{}
	for range rounds {
		s := (&breeder{r: r}).module()
		l, err, _ := parse.Text(s)
		if err == api.ErrBig {
			continue
		}
		if err != api.OK {
			t.Fatalf("the program %s is wrong: %d", s, err)
		}
		if _, err, _ := gen.Unit(l); err == api.ErrBig {
			continue
		}
		for _, e := range checkBehaviour(t, l) {
			word, _, _ := strings.Cut(e, " |")
			if kind, _, _ := strings.Cut(word, " "); kind != "fails:" {
				word = kind
			}
			seen[word]++
		}
	}
	for _, word := range []string{"tick", "call", "use", "emit", "put", "yield", "store", "ends", "has", "fails: type", "fails: zero", "fails: call", "fails: arity", "fails: deep"} {
		if seen[word] < rounds/400 {
			t.Errorf("%q was observed %d times: %v", word, seen[word], seen)
		}
	}
}

// TestShortPrograms executes all bodies of a few parts.
func TestShortPrograms(t *testing.T) {
	parts := []string{
		"let a = 1;", "let b = fn() {", "if p {", "} else {", "while p {", "p = p - 1;", "break;", "continue;", "emit p or g(p);", "fn() { p = p - 1; }();", "yield;", "}",
	}
	longest := 4
	if testing.Short() {
		longest = 3
	}
	right := 0
	var all func(body []string, left int)
	all = func(body []string, left int) {
		s, fits := closed(body)
		if _, err, _ := gen.Text(s); !fits || err != api.OK {
			// What is wrong stays wrong, whatever follows.
			return
		}
		checkBehaviour(t, parsed(t, s))
		right++
		if left == 0 || t.Failed() {
			return
		}
		for _, part := range parts {
			all(append(slices.Clone(body), part), left-1)
		}
	}
	all(nil, longest)
	if right < 300 {
		t.Errorf("only %d programs are right", right)
	}
}

// closed returns the program with that body, after which the blocks that are open are closed. There is none if the body closes more than it opens.
func closed(body []string) (string, bool) {
	s := "module m 1; fn f(p) { "
	var ends []string
	for _, part := range body {
		if strings.HasPrefix(part, "}") {
			if len(ends) == 0 || part != "}" && ends[len(ends)-1] != "}" {
				return "", false
			}
			last := len(ends) - 1
			if part == "}" {
				part = ends[last]
			}
			ends = ends[:last]
		}
		s += part + " "
		switch {
		case strings.HasSuffix(part, "fn() {"):
			ends = append(ends, "};")
		case strings.HasSuffix(part, "{"):
			ends = append(ends, "}")
		}
	}
	slices.Reverse(ends)
	return s + strings.Join(ends, " ") + " } fn g(x) { return x + 10; }", true
}

func TestSameTreeSameUnit(t *testing.T) {
	r := rand.New(rand.NewSource(2))
	for range 300 {
		s := (&breeder{r: r}).module()
		u, err, at := gen.Text(s)
		v, again, atAgain := gen.Text(s)
		if err != again || at != atAgain || !reflect.DeepEqual(u, v) {
			t.Fatalf("%s: two units", s)
		}
	}
}
