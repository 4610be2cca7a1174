package scope_test

import (
	"fmt"
	"math/rand"
	"slices"
	"strings"
	"testing"

	"chrysalis/api"
	"chrysalis/parse"
	"chrysalis/scope"
	"chrysalis/tree"
)

// checkModel compares what Check returns for a valid tree with the model, and reports whether there is no error.
func checkModel(t *testing.T, what string, l []api.Node) bool {
	t.Helper()
	m := newModel(l)
	want, wantAt := m.failure()
	if want != api.OK {
		checkTree(t, what, l, want, wantAt)
		return false
	}
	got, err, at := scope.Check(l)
	if err != api.OK || at != 0 {
		t.Errorf("Check of %s = %d, %d; want OK, 0", what, err, at)
		return false
	}
	checkInfo(t, what, got, m.info())
	checkProperties(t, what, l, got)
	return true
}

// checkProperties checks P12.2.
func checkProperties(t *testing.T, what string, l []api.Node, got scope.Info) {
	t.Helper()
	captured := map[[2]int]bool{}
	for i, f := range got.Funs {
		if (i < got.Top) != (f.Parent < 0) || f.Parent >= i {
			t.Errorf("%s: function %d is within function %d", what, i, f.Parent)
		}
		if i < got.Top && len(f.Caps) > 0 {
			t.Errorf("%s: function %d of the module captures %v", what, i, f.Caps)
		}
		for _, c := range f.Caps {
			if c.Up && c.Index >= len(got.Funs[f.Parent].Caps) || c.Index < 0 {
				t.Errorf("%s: function %d captures %v, which does not exist", what, i, c)
			}
			if !c.Up {
				captured[[2]int{f.Parent, c.Index}] = true
			}
		}
	}
	boxed := 0
	for i, f := range got.Funs {
		for v, is := range f.Boxed {
			if is != captured[[2]int{i, v}] {
				t.Errorf("%s: variable %d of function %d: Boxed %v", what, v, i, is)
			}
			if is {
				boxed++
			}
		}
	}
	if boxed != len(captured) {
		t.Errorf("%s: a variable is captured that does not exist", what)
	}
	m := newModel(l)
	for x, r := range got.Refs {
		f := api.Fun{}
		if m.around[x] >= 0 {
			f = got.Funs[m.around[x]]
		}
		if limit := []int{1, f.Vars, len(f.Caps), got.Top, len(got.Uses)}[r.Kind]; r.Index < 0 || r.Index >= limit {
			t.Errorf("%s: node %d refers to %v, which does not exist", what, x, r)
		}
	}
}

// P12.1 and P12.2: short programs

func TestAllShortPrograms(t *testing.T) {
	parts := []string{
		"let a = 1;", "let b = f(a);", "let b = fn(a) {", "fn() {", "fn(c) {", "while b {", "a = b;", "b(c);", "break;", "}",
	}
	longest := 5
	if testing.Short() {
		longest = 4
	}
	right := 0
	var all func(body string, open []string, left int)
	all = func(body string, open []string, left int) {
		text := "module m 1; fn f(c) { " + body
		for _, end := range slices.Backward(open) {
			text += end
		}
		l, err, _ := parse.Text(text + "}")
		if err != api.OK {
			t.Fatalf("%q is not a module", text)
		}
		if checkModel(t, text, l) {
			right++
		}
		if left == 0 || t.Failed() {
			return
		}
		for _, part := range parts {
			switch {
			case part == "}" && len(open) == 0:
			case part == "}":
				last := len(open) - 1
				all(body+open[last], open[:last:last], left-1)
			case strings.HasPrefix(part, "while"):
				all(body+part, append(slices.Clone(open), "}"), left-1)
			case strings.HasSuffix(part, "{"):
				all(body+part, append(slices.Clone(open), "};"), left-1)
			default:
				all(body+part, open, left-1)
			}
		}
	}
	all("", nil, longest)
	if right < 100 {
		t.Errorf("only %d programs are right", right)
	}
}

// grower grows the trees of modules. Most names in them refer to something, unless one of so many choices is a flaw.
type grower struct {
	r       *rand.Rand
	flaws   int
	left    int
	visible []string
	funs    []api.Node
	uses    []api.Node
	vars    int
	loops   int
}

func with(n api.Node, below ...[]api.Node) []api.Node {
	n.Kids = len(below)
	return slices.Concat([]api.Node{n}, slices.Concat(below...))
}

func (g *grower) flaw() bool {
	return g.flaws > 0 && g.r.Intn(g.flaws) == 0
}

func (g *grower) name() string {
	return string(rune('a' + g.r.Intn(26)))
}

func (g *grower) module() []api.Node {
	for range g.r.Intn(4) {
		g.uses = append(g.uses, api.Node{Kind: api.NUse, Name: g.name(), Text: g.name(), N: int64(g.r.Intn(4))})
	}
	for i := range 1 + g.r.Intn(5) {
		n := api.Node{Kind: api.NFun, Name: string(rune('a' + 4*i)), Kids: g.r.Intn(4)}
		if g.flaw() {
			n.Name = g.name()
		}
		g.funs = append(g.funs, n)
	}
	var below [][]api.Node
	for _, u := range g.uses {
		below = append(below, []api.Node{u})
	}
	for _, f := range g.funs {
		g.vars, g.loops = 0, 0
		below = append(below, g.function(f, f.Kids, 20))
	}
	return with(api.Node{Kind: api.NModule, Name: "m", N: 1}, below...)
}

// function grows a function with so many parameters. What is visible around it is visible in it.
func (g *grower) function(n api.Node, params, depth int) []api.Node {
	visible, vars, loops := len(g.visible), g.vars, g.loops
	g.vars, g.loops = 0, 0
	var below [][]api.Node
	for range params {
		below = append(below, []api.Node{g.declare(api.NParam)})
	}
	below = append(below, g.block(depth))
	g.visible, g.vars, g.loops = g.visible[:visible], vars, loops
	return with(n, below...)
}

func (g *grower) declare(kind int) api.Node {
	n := api.Node{Kind: kind, Name: g.name()}
	for slices.Contains(g.visible, n.Name) && !g.flaw() {
		n.Name = "v" + g.name() + g.name()
	}
	g.vars++
	g.visible = append(g.visible, n.Name)
	return n
}

func (g *grower) block(depth int) []api.Node {
	visible := len(g.visible)
	var below [][]api.Node
	for range 1 + g.r.Intn(4) {
		if g.left <= 0 || depth <= 0 {
			break
		}
		below = append(below, g.stmt(depth-1))
	}
	g.visible = g.visible[:visible]
	return with(api.Node{Kind: api.NBlock}, below...)
}

func (g *grower) stmt(depth int) []api.Node {
	g.left--
	n := api.Node{Kind: api.NLet + g.r.Intn(12)}
	if n.Kind > api.NYield || g.r.Intn(3) == 0 {
		n.Kind = api.NLet
	}
	switch n.Kind {
	case api.NLet:
		if g.vars == api.MaxVars && !g.flaw() {
			return with(api.Node{Kind: api.NYield})
		}
		// The expression comes first, because the variable is not visible in it.
		e := g.expr(depth)
		return with(g.declare(api.NLet), e)
	case api.NAssign:
		v, ok := g.variable()
		if !ok {
			return with(api.Node{Kind: api.NYield})
		}
		n.Name = v
		return with(n, g.expr(depth))
	case api.NStore:
		return with(n, g.exprs(3, depth)...)
	case api.NIf:
		below := [][]api.Node{g.expr(depth), g.block(depth)}
		if g.r.Intn(2) == 0 {
			below = append(below, g.block(depth))
		}
		return with(n, below...)
	case api.NWhile:
		e := g.expr(depth)
		g.loops++
		b := g.block(depth)
		g.loops--
		return with(n, e, b)
	case api.NBreak, api.NContinue:
		if g.loops == 0 && !g.flaw() {
			return with(api.Node{Kind: api.NYield})
		}
		return with(n)
	case api.NYield:
		return with(n)
	}
	return with(n, g.expr(depth))
}

// variable returns the name of a visible variable, if there is one.
func (g *grower) variable() (string, bool) {
	if g.flaw() {
		return g.name(), true
	}
	if len(g.visible) == 0 {
		return "", false
	}
	return g.visible[g.r.Intn(len(g.visible))], true
}

func (g *grower) exprs(n, depth int) [][]api.Node {
	var l [][]api.Node
	for range n {
		l = append(l, g.expr(depth))
	}
	return l
}

func (g *grower) expr(depth int) []api.Node {
	g.left--
	if v, ok := g.variable(); ok && (g.left <= 0 || depth <= 0 || g.r.Intn(3) == 0) {
		return with(api.Node{Kind: api.NName, Name: v})
	}
	if g.left <= 0 || depth <= 0 {
		return with(api.Node{Kind: []int{api.NNil, api.NInt, api.NTable, api.NState}[g.r.Intn(4)]})
	}
	n := api.Node{Kind: []int{api.NText, api.NCall, api.NCall, api.NOuter, api.NFn, api.NFn, api.NIndex, api.NBin, api.NUn, api.NSpawn}[g.r.Intn(10)]}
	switch depth--; n.Kind {
	case api.NCall:
		return g.call(n, depth)
	case api.NOuter:
		return g.outer(n, depth)
	case api.NFn:
		return g.function(n, g.r.Intn(4), depth)
	case api.NIndex:
		return with(n, g.exprs(2, depth)...)
	case api.NBin:
		n.Text = []string{"+", "<", "..", "and", "or"}[g.r.Intn(5)]
		return with(n, g.exprs(2, depth)...)
	case api.NUn:
		n.Text = []string{"-", "not", "len"}[g.r.Intn(3)]
		return with(n, g.expr(depth))
	case api.NSpawn:
		return with(n, g.expr(depth))
	}
	return with(n)
}

func (g *grower) call(n api.Node, depth int) []api.Node {
	f := g.funs[g.r.Intn(len(g.funs))]
	if g.r.Intn(2) == 0 || slices.Contains(g.visible, f.Name) {
		return with(n, g.exprs(1+g.r.Intn(5), depth)...)
	}
	args := f.Kids
	if g.flaw() {
		args = g.r.Intn(4)
	}
	callee := with(api.Node{Kind: api.NName, Name: f.Name})
	return with(n, slices.Concat([][]api.Node{callee}, g.exprs(args, depth))...)
}

func (g *grower) outer(n api.Node, depth int) []api.Node {
	if len(g.uses) == 0 {
		return with(api.Node{Kind: api.NTable})
	}
	u := g.uses[g.r.Intn(len(g.uses))]
	n.Name, n.Text = u.Name, u.Text
	args := int(u.N)
	if g.flaw() {
		args = g.r.Intn(4)
	}
	return with(n, g.exprs(args, depth)...)
}

// P12.1 and P12.2: random modules

func TestRandomModules(t *testing.T) {
	r := rand.New(rand.NewSource(12))
	rounds := 6000
	if testing.Short() {
		rounds = 1500
	}
	right, wrong, large := 0, 0, 0
	for i := range rounds {
		g := &grower{r: r, flaws: []int{0, 0, 8, 50}[i%4], left: 1 + r.Intn(1<<(3+i%7))}
		l := g.module()
		if err, at := tree.Check(l); err == api.ErrBig {
			continue
		} else if err != api.OK {
			t.Fatalf("a random tree is not valid: %d, %d", err, at)
		}
		if checkModel(t, fmt.Sprintf("a random module %v", l), l) {
			right++
			if len(l) > 200 {
				large++
			}
		} else {
			wrong++
		}
		if t.Failed() {
			return
		}
		checkSpoiled(t, r, l)
	}
	if right < rounds/3 || wrong < rounds/6 || large < rounds/100 {
		t.Errorf("%d random modules are right, of which %d are large, and %d are wrong", right, large, wrong)
	}
}

// checkSpoiled changes one node of a tree, which remains valid.
func checkSpoiled(t *testing.T, r *rand.Rand, l []api.Node) {
	t.Helper()
	c := slices.Clone(l)
	i := r.Intn(len(c))
	switch c[i].Kind {
	case api.NBreak, api.NContinue, api.NYield:
		c[i].Kind = []int{api.NBreak, api.NContinue}[r.Intn(2)]
	case api.NNil, api.NInt, api.NText, api.NTable, api.NState:
		c[i] = api.Node{Kind: api.NName, Name: l[r.Intn(len(l))].Name}
	case api.NLet, api.NAssign:
		c[i].Kind = api.NLet + api.NAssign - c[i].Kind
	case api.NUse:
		c[i].N = int64(r.Intn(4))
	default:
		if c[i].Name != "" {
			c[i].Name = l[r.Intn(len(l))].Name
		}
	}
	if err, _ := tree.Check(c); err == api.OK {
		checkModel(t, fmt.Sprintf("a changed module %v", c), c)
	}
}

// P12.1: Check of trees that are not valid

func TestSpoiledTrees(t *testing.T) {
	r := rand.New(rand.NewSource(13))
	invalid := 0
	for range 20000 {
		g := &grower{r: r, left: 1 + r.Intn(30)}
		l := g.module()
		for range 1 + r.Intn(2) {
			n := &l[r.Intn(len(l))]
			switch r.Intn(6) {
			case 0:
				n.Kind = r.Intn(33) - 1
			case 1:
				n.Kids += r.Intn(5) - 2
			case 2:
				n.Name = []string{"", "a", "A", "fn"}[r.Intn(4)]
			case 3:
				n.N = []int64{-1, 0, 1, 9, 1 << 40}[r.Intn(5)]
			case 4:
				n.Text = []string{"", "a", "+", "fn"}[r.Intn(4)]
			case 5:
				l = l[:r.Intn(len(l)+1)]
			}
			if len(l) == 0 {
				break
			}
		}
		if err, at := tree.Check(l); err != api.OK {
			checkTree(t, fmt.Sprintf("a tree that is not valid: %v", l), l, err, at)
			invalid++
		} else {
			checkModel(t, fmt.Sprintf("a changed module %v", l), l)
		}
		if t.Failed() {
			return
		}
	}
	if invalid < 5000 {
		t.Errorf("only %d trees are not valid", invalid)
	}
}
