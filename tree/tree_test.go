package tree_test

import (
	"math"
	"math/rand"
	"regexp"
	"slices"
	"strconv"
	"strings"
	"testing"

	"chrysalis/api"
	"chrysalis/tree"
)

// kinds are the kinds of the table, from NModule to NSpawn.
const (
	firstKind = 1
	lastKind  = 30
)

const maxVersion = 1<<31 - 1

// with returns the tree of a node with these trees below it.
func with(n api.Node, below ...[]api.Node) []api.Node {
	n.Kids = len(below)
	return slices.Concat([]api.Node{n}, slices.Concat(below...))
}

// leaf returns a list of one node, the only field of which is its kind.
func leaf(kind int) []api.Node {
	return []api.Node{{Kind: kind}}
}

func module(below ...[]api.Node) []api.Node {
	return with(api.Node{Kind: api.NModule, Name: "m", N: 1}, below...)
}

func fun(below ...[]api.Node) []api.Node {
	return with(api.Node{Kind: api.NFun, Name: "f"}, below...)
}

func block(below ...[]api.Node) []api.Node {
	return with(api.Node{Kind: api.NBlock}, below...)
}

func do(below ...[]api.Node) []api.Node {
	return with(api.Node{Kind: api.NDo}, below...)
}

func not(below ...[]api.Node) []api.Node {
	return with(api.Node{Kind: api.NUn, Text: "not"}, below...)
}

// least returns a valid tree of that kind, with as few nodes as possible; for what is no kind, or a module, a tree that is nowhere valid.
func least(kind int) []api.Node {
	name, e, b := "a", leaf(api.NNil), leaf(api.NBlock)
	switch kind {
	case api.NModule:
		return module()
	case api.NUse:
		return with(api.Node{Kind: kind, Name: name, Text: name})
	case api.NParam, api.NName:
		return with(api.Node{Kind: kind, Name: name})
	case api.NFun:
		return with(api.Node{Kind: kind, Name: name}, b)
	case api.NLet, api.NAssign:
		return with(api.Node{Kind: kind, Name: name}, e)
	case api.NStore:
		return with(api.Node{Kind: kind}, e, e, e)
	case api.NIf, api.NWhile:
		return with(api.Node{Kind: kind}, e, b)
	case api.NReturn, api.NPut, api.NEmit, api.NDo, api.NCall, api.NSpawn:
		return with(api.Node{Kind: kind}, e)
	case api.NOuter:
		return with(api.Node{Kind: kind, Name: name, Text: name})
	case api.NFn:
		return with(api.Node{Kind: kind}, b)
	case api.NIndex:
		return with(api.Node{Kind: kind}, e, e)
	case api.NBin:
		return with(api.Node{Kind: kind, Text: "+"}, e, e)
	case api.NUn:
		return with(api.Node{Kind: kind, Text: "-"}, e)
	}
	return leaf(kind)
}

// placed returns the tree of a module that contains the tree l where its kind can stand, and the index of l in it.
func placed(l []api.Node) ([]api.Node, int) {
	kind := l[0].Kind
	switch {
	case kind == api.NModule:
		return l, 0
	case kind == api.NUse || kind == api.NFun:
		return module(l), 1
	case kind == api.NParam:
		return module(fun(l, leaf(api.NBlock))), 2
	case kind == api.NBlock:
		return module(fun(l)), 2
	case api.NLet <= kind && kind <= api.NDo:
		return module(fun(block(l))), 3
	}
	return module(fun(block(do(l)))), 4
}

// refEnd is End, as the words of the chapter define it: a complete tree is a node and as many complete trees as its Kids says.
func refEnd(l []api.Node, i int) int {
	if i < 0 || i >= len(l) || l[i].Kids < 0 {
		return -1
	}
	end := i + 1
	for range l[i].Kids {
		if end = refEnd(l, end); end < 0 {
			return -1
		}
	}
	return end
}

func refKids(l []api.Node, i int) []int {
	if refEnd(l, i) < 0 {
		return nil
	}
	var out []int
	at := i + 1
	for range l[i].Kids {
		out = append(out, at)
		at = refEnd(l, at)
	}
	return out
}

func refSub(l []api.Node, i int) []api.Node {
	end := refEnd(l, i)
	if end < 0 {
		return nil
	}
	return l[i:end]
}

func refDepth(l []api.Node) int {
	deepest := 0
	for at := 0; at < len(l); {
		end := refEnd(l, at)
		if end < 0 {
			return -1
		}
		deepest = max(deepest, 1+refDepth(l[at+1:end]))
		at = end
	}
	return deepest
}

// counts returns nodes with these numbers of children; their other fields are odd, because End, Kids, Depth and Sub do not depend on them.
func counts(kids ...int) []api.Node {
	var out []api.Node
	for i, k := range kids {
		out = append(out, api.Node{Kind: 40 - i, Kids: k, Name: "!" + strconv.Itoa(i), N: int64(-i), Text: strconv.Itoa(k)})
	}
	return out
}

func kidsOf(l []api.Node) []int {
	var out []int
	for _, n := range l {
		out = append(out, n.Kids)
	}
	return out
}

// indexes returns the indexes of l, some around them, and the ends of int.
func indexes(l []api.Node) []int {
	out := []int{math.MinInt, math.MinInt + 1, -2, -1}
	for i := range len(l) + 2 {
		out = append(out, i)
	}
	return append(out, math.MaxInt-1, math.MaxInt)
}

// checkShape compares End, Kids, Sub and Depth with what the chapter says of l.
func checkShape(t *testing.T, l []api.Node) {
	t.Helper()
	for _, i := range indexes(l) {
		if got, want := tree.End(l, i), refEnd(l, i); got != want {
			t.Errorf("End(%v, %d) = %d; want %d", kidsOf(l), i, got, want)
		}
		if got, want := tree.Kids(l, i), refKids(l, i); !slices.Equal(got, want) {
			t.Errorf("Kids(%v, %d) = %v; want %v", kidsOf(l), i, got, want)
		}
		if got, want := tree.Sub(l, i), refSub(l, i); !slices.Equal(got, want) {
			t.Errorf("Sub(%v, %d) = %v; want %v", kidsOf(l), i, got, want)
		}
	}
	if got, want := tree.Depth(l), refDepth(l); got != want {
		t.Errorf("Depth(%v) = %d; want %d", kidsOf(l), got, want)
	}
}

func checkCheck(t *testing.T, what string, l []api.Node, want api.Errno, wantAt int) {
	t.Helper()
	if err, at := tree.Check(l); err != want || at != wantAt {
		t.Errorf("Check of %s = %d, %d; want %d, %d", what, err, at, want, wantAt)
	}
}

// Examples of the chapter

func TestExamples(t *testing.T) {
	l := []api.Node{{Kind: api.NModule, Name: "m", N: 1}}
	checkCheck(t, "a module", l, api.OK, 0)
	if end, depth := tree.End(l, 0), tree.Depth(l); end != 1 || depth != 1 {
		t.Errorf("End = %d, Depth = %d; want 1, 1", end, depth)
	}
	checkCheck(t, "an NLet without a child", module(fun(block([]api.Node{{Kind: api.NLet, Name: "a"}}))), api.ErrForm, 3)
}

// P9.1: End, Kids, Sub

func TestEndKidsSub(t *testing.T) {
	// 0( 1 2( 3( 4 ) 5 ) 6 ), and after it 7( 8 ).
	l := counts(3, 0, 2, 1, 0, 0, 0, 1, 0)
	ends := []int{7, 2, 6, 5, 5, 6, 7, 9, 9}
	kids := [][]int{{1, 2, 6}, {}, {3, 5}, {4}, {}, {}, {}, {8}, {}}
	for i := range l {
		if got := tree.End(l, i); got != ends[i] {
			t.Errorf("End(%d) = %d; want %d", i, got, ends[i])
		}
		if got := tree.Kids(l, i); !slices.Equal(got, kids[i]) {
			t.Errorf("Kids(%d) = %v; want %v", i, got, kids[i])
		}
		if got := tree.Sub(l, i); !slices.Equal(got, l[i:ends[i]]) {
			t.Errorf("Sub(%d) = %v; want %v", i, got, l[i:ends[i]])
		}
	}
}

func TestIncompleteTrees(t *testing.T) {
	for _, c := range []struct {
		kids []int
		i    int
		end  int
	}{
		{nil, 0, -1},
		{[]int{0}, 1, -1},
		{[]int{0}, -1, -1},
		{[]int{1}, 0, -1},
		{[]int{2, 0}, 0, -1},
		{[]int{1, 1, 1}, 0, -1},
		{[]int{-1}, 0, -1},
		{[]int{-1, 0}, 1, 2},
		{[]int{1, -1}, 0, -1},
		{[]int{2, 0, -1}, 0, -1},
		{[]int{2, -1, 0}, 0, -1},
		{[]int{2, -1, 0, 0, 0}, 0, -1},
		// Negative numbers do not make up for others.
		{[]int{2, 0, 1, -1, 0}, 0, -1},
		{[]int{3, 0, -1}, 0, -1},
		// What is odd after a tree does not concern it.
		{[]int{0, -1}, 0, 1},
		{[]int{1, 0, math.MaxInt}, 0, 2},
		{[]int{1, 0, 1}, 0, 2},
		{[]int{1, 0, 1}, 2, -1},
		// Sums that overflow.
		{[]int{math.MaxInt}, 0, -1},
		{[]int{math.MaxInt, 0, 0}, 0, -1},
		{[]int{1, math.MaxInt}, 0, -1},
		{[]int{2, math.MaxInt, math.MaxInt, 0}, 0, -1},
		{[]int{3, math.MaxInt, math.MaxInt - 1, 0, 0}, 0, -1},
		{[]int{math.MaxInt, math.MaxInt, 2, 0, 0, 0}, 0, -1},
		{[]int{math.MinInt, 0}, 0, -1},
		{[]int{1, math.MinInt}, 0, -1},
		{[]int{2, math.MinInt, math.MinInt}, 0, -1},
		{[]int{1 << 32}, 0, -1},
		{[]int{1 << 32, 0}, 0, -1},
		{[]int{1<<32 + 1, 0}, 0, -1},
	} {
		l := counts(c.kids...)
		if got := tree.End(l, c.i); got != c.end {
			t.Errorf("End(%v, %d) = %d; want %d", c.kids, c.i, got, c.end)
		}
		if c.end >= 0 {
			continue
		}
		if got := tree.Kids(l, c.i); got != nil {
			t.Errorf("Kids(%v, %d) = %v; want nil", c.kids, c.i, got)
		}
		if got := tree.Sub(l, c.i); got != nil {
			t.Errorf("Sub(%v, %d) = %v; want nil", c.kids, c.i, got)
		}
	}
}

func TestShapesOfAllShortLists(t *testing.T) {
	numbers := []int{-1, 0, 1, 2, 3, math.MaxInt}
	longest := 6
	if testing.Short() {
		longest = 4
	}
	var all func(l []api.Node)
	all = func(l []api.Node) {
		checkShape(t, l)
		if len(l) == longest || t.Failed() {
			return
		}
		for _, k := range numbers {
			all(append(slices.Clone(l), api.Node{Kids: k, N: int64(len(l))}))
		}
	}
	all(nil)
	all([]api.Node{})
}

// randomNumber returns mostly small numbers, and sometimes odd ones.
func randomNumber(r *rand.Rand) int {
	if r.Intn(12) == 0 {
		odd := []int{-1, -2, math.MinInt, math.MaxInt, 1 << 31, 1 << 32, 1 << 62, 100}
		return odd[r.Intn(len(odd))]
	}
	return []int{0, 0, 0, 1, 1, 2, 3}[r.Intn(7)]
}

func TestShapesOfRandomLists(t *testing.T) {
	r := rand.New(rand.NewSource(1))
	for range 20000 {
		l := make([]api.Node, r.Intn(30))
		for i := range l {
			l[i] = api.Node{Kind: randomNumber(r), Kids: randomNumber(r), N: int64(i)}
		}
		checkShape(t, l)
		if t.Failed() {
			return
		}
	}
}

// P9.2: Depth

func TestDepth(t *testing.T) {
	for _, c := range []struct {
		kids []int
		want int
	}{
		{nil, 0},
		{[]int{}, 0},
		{[]int{0}, 1},
		{[]int{0, 0, 0}, 1},
		{[]int{1, 0}, 2},
		{[]int{2, 0, 0}, 2},
		{[]int{1, 1, 0}, 3},
		{[]int{2, 1, 0, 0}, 3},
		{[]int{2, 0, 1, 0}, 3},
		{[]int{2, 2, 0, 0, 0}, 3},
		{[]int{0, 1, 1, 0, 1, 0}, 3},
		{[]int{1, 1, 1, 0, 0, 1, 0}, 4},
		{[]int{1, 0, 1, 1, 1, 0}, 4},
		{[]int{3, 0, 2, 1, 0, 0, 0, 1, 0}, 4},
		{[]int{1}, -1},
		{[]int{0, 1}, -1},
		{[]int{1, 0, 1}, -1},
		{[]int{2, 0}, -1},
		{[]int{1, 1}, -1},
		{[]int{-1}, -1},
		{[]int{0, -1}, -1},
		{[]int{-1, 0}, -1},
		{[]int{2, 0, -1}, -1},
		{[]int{math.MaxInt, 0}, -1},
		{[]int{math.MinInt, 0}, -1},
		{[]int{0, math.MaxInt}, -1},
	} {
		if got := tree.Depth(counts(c.kids...)); got != c.want {
			t.Errorf("Depth(%v) = %d; want %d", c.kids, got, c.want)
		}
	}
}

// Long lists also show that the time does not grow with the square of their length.
func TestLongLists(t *testing.T) {
	const deep, wide = 1 << 16, 1 << 20
	chain := slices.Repeat([]api.Node{{Kids: 1}}, deep)
	if end, depth := tree.End(chain, 0), tree.Depth(chain); end != -1 || depth != -1 {
		t.Errorf("chain without an end: End = %d, Depth = %d", end, depth)
	}
	chain[deep-1].Kids = 0
	if end, depth := tree.End(chain, 0), tree.Depth(chain); end != deep || depth != deep {
		t.Errorf("chain: End = %d, Depth = %d", end, depth)
	}
	if kids, sub := tree.Kids(chain, 1), tree.Sub(chain, 1); !slices.Equal(kids, []int{2}) || !slices.Equal(sub, chain[1:]) {
		t.Errorf("chain: Kids = %v, Sub has %d nodes", kids, len(sub))
	}

	flat := make([]api.Node, 1+wide)
	if depth := tree.Depth(flat); depth != 1 {
		t.Errorf("leaves: Depth = %d", depth)
	}
	flat[0].Kids = wide
	if end, depth := tree.End(flat, 0), tree.Depth(flat); end != 1+wide || depth != 2 {
		t.Errorf("flat: End = %d, Depth = %d", end, depth)
	}
	kids := tree.Kids(flat, 0)
	if len(kids) != wide || kids[0] != 1 || kids[wide-1] != wide {
		t.Errorf("flat: Kids has %d indexes", len(kids))
	}
	if sub := tree.Sub(flat, 0); !slices.Equal(sub, flat) {
		t.Errorf("flat: Sub has %d nodes", len(sub))
	}
	for _, l := range [][]api.Node{chain, flat, make([]api.Node, wide)} {
		checkCheck(t, "a long list", l, api.ErrBig, 0)
	}
}

// P9.3: Check, the limits and their order

// sized returns a valid tree of a module with that many nodes.
func sized(nodes int) []api.Node {
	return module(fun(block(slices.Repeat([][]api.Node{leaf(api.NBreak)}, nodes-3)...)))
}

// nested returns a valid tree of a module with that Depth.
func nested(depth int) []api.Node {
	l := leaf(api.NNil)
	for range depth - 5 {
		l = not(l)
	}
	return module(fun(block(do(l))))
}

func changed(l []api.Node, i int, change func(n *api.Node)) []api.Node {
	out := slices.Clone(l)
	change(&out[i])
	return out
}

func TestCheckLimits(t *testing.T) {
	for _, n := range []int{3, 4, 100, api.MaxNodes - 1, api.MaxNodes} {
		l := sized(n)
		if len(l) != n {
			t.Fatalf("%d nodes; want %d", len(l), n)
		}
		checkCheck(t, strconv.Itoa(n)+" nodes", l, api.OK, 0)
	}
	for _, n := range []int{api.MaxNodes + 1, api.MaxNodes + 2, 2 * api.MaxNodes} {
		checkCheck(t, strconv.Itoa(n)+" nodes", sized(n), api.ErrBig, 0)
	}
	for _, n := range []int{5, 6, 30, api.MaxDepth - 1, api.MaxDepth} {
		l := nested(n)
		if got := tree.Depth(l); got != n {
			t.Fatalf("Depth = %d; want %d", got, n)
		}
		checkCheck(t, "depth "+strconv.Itoa(n), l, api.OK, 0)
	}
	for _, n := range []int{api.MaxDepth + 1, api.MaxDepth + 2, 1000} {
		checkCheck(t, "depth "+strconv.Itoa(n), nested(n), api.ErrBig, 0)
	}
	// The deepest node need not be the last one.
	l := nested(api.MaxDepth + 1)
	checkCheck(t, "a depth above the limit before others", module(fun(l[2:]), fun(block())), api.ErrBig, 0)
	checkCheck(t, "a depth at the limit before others", module(fun(nested(api.MaxDepth)[2:]), fun(block())), api.OK, 0)
}

func TestCheckRefusesIncompleteTrees(t *testing.T) {
	checkCheck(t, "nil", nil, api.ErrShort, 0)
	checkCheck(t, "an empty list", []api.Node{}, api.ErrShort, 0)
	l := module(fun(block(do(leaf(api.NNil)))), fun(block()))
	checkCheck(t, "a module", l, api.OK, 0)
	for i := range l {
		checkCheck(t, "a beginning of a module", l[:i], api.ErrShort, 0)
		for _, k := range []int{-1, math.MinInt, math.MaxInt, l[i].Kids - 1, l[i].Kids + 1} {
			other := changed(l, i, func(n *api.Node) { n.Kids = k })
			checkCheck(t, "a module with other Kids", other, api.ErrShort, 0)
		}
	}
	checkCheck(t, "two modules", slices.Concat(l, l), api.ErrShort, 0)
	checkCheck(t, "a module and a function", slices.Concat(l, fun(block())), api.ErrShort, 0)
	checkCheck(t, "a node before a module", slices.Concat(leaf(api.NNil), l), api.ErrShort, 0)
}

func TestCheckReturnsTheFirstError(t *testing.T) {
	big := sized(api.MaxNodes + 1)
	deep := nested(api.MaxDepth + 1)
	spoil := func(n *api.Node) { n.Kind = api.NNil }
	anonymous := func(n *api.Node) { n.Name = "" }
	negative := func(n *api.Node) { n.Kids = -1 }

	checkCheck(t, "too many nodes, incomplete", changed(big, 0, negative), api.ErrBig, 0)
	checkCheck(t, "too many nodes, incomplete", changed(big, len(big)-1, negative), api.ErrBig, 0)
	checkCheck(t, "too many nodes without a module", changed(big, 0, spoil), api.ErrBig, 0)
	checkCheck(t, "too many nodes without a name", changed(big, 0, anonymous), api.ErrBig, 0)
	checkCheck(t, "too many leaves", make([]api.Node, api.MaxNodes+1), api.ErrBig, 0)
	checkCheck(t, "leaves", make([]api.Node, api.MaxNodes), api.ErrShort, 0)

	checkCheck(t, "too deep, incomplete", deep[:len(deep)-1], api.ErrShort, 0)
	checkCheck(t, "too deep, two trees", slices.Concat(deep, module()), api.ErrShort, 0)
	checkCheck(t, "incomplete without a module", changed(sized(5), 0, spoil)[:4], api.ErrShort, 0)
	checkCheck(t, "incomplete without a name", changed(sized(5), 0, anonymous)[:4], api.ErrShort, 0)

	checkCheck(t, "too deep without a module", changed(deep, 0, spoil), api.ErrBig, 0)
	checkCheck(t, "too deep without a name", changed(deep, 1, anonymous), api.ErrBig, 0)

	checkCheck(t, "no module and no name", changed(changed(sized(5), 0, spoil), 1, anonymous), api.ErrForm, 0)
}

func TestCheckRefusesOtherRoots(t *testing.T) {
	for kind := -1; kind <= lastKind+2; kind++ {
		if kind == api.NModule {
			continue
		}
		checkCheck(t, "a root of the kind "+strconv.Itoa(kind), least(kind), api.ErrForm, 0)
		// The fields and children of a module do not make one.
		checkCheck(t, "a root of the kind "+strconv.Itoa(kind), changed(sized(5), 0, func(n *api.Node) { n.Kind = kind }), api.ErrForm, 0)
	}
	for _, kind := range []int{math.MinInt, math.MaxInt, 1 << 32, 1<<32 + 1, -api.NModule} {
		checkCheck(t, "a root of the kind "+strconv.Itoa(kind), []api.Node{{Kind: kind, Name: "m", N: 1}}, api.ErrForm, 0)
	}
}

// P9.3: Check, the fields

// fields are what the table says of the fields of a kind: the N is at least low and at most high, and name and text name a set of strings.
type fields struct {
	name      string
	low, high int64
	text      string
}

func tableOfFields() map[int]fields {
	table := map[int]fields{
		api.NModule: {name: "name", low: 1, high: maxVersion},
		api.NUse:    {name: "name", text: "name", high: 8},
		api.NInt:    {high: math.MaxInt64},
		api.NText:   {text: "content"},
		api.NOuter:  {name: "name", text: "name"},
		api.NBin:    {text: "binary"},
		api.NUn:     {text: "unary"},
	}
	for _, kind := range []int{api.NFun, api.NParam, api.NLet, api.NAssign, api.NName} {
		table[kind] = fields{name: "name"}
	}
	return table
}

// among reports whether s is in the set of strings with that name; "" is the set of the empty string.
func among(set, s string) bool {
	switch set {
	case "name":
		return slices.Contains([]string{"a", "z", "m", "f", "a_1", "nots", "andor", strings.Repeat("n", 16)}, s)
	case "binary":
		return slices.Contains(strings.Fields("+ - * / % .. == != < <= and or"), s)
	case "unary":
		return slices.Contains(strings.Fields("- not len"), s)
	case "content":
		return len(s) <= 1024
	}
	return s == ""
}

func (f fields) allow(n api.Node) bool {
	return among(f.name, n.Name) && f.low <= n.N && n.N <= f.high && among(f.text, n.Text)
}

func TestCheckFields(t *testing.T) {
	names := []string{"", "a", "a_1", "nots", strings.Repeat("n", 16), strings.Repeat("n", 17), "fn", "len", "A", "1", "_a", " a", "a ", "a.b", "ä", "\x00", "+", "\"a\""}
	numbers := []int64{math.MinInt64, -maxVersion, -1, 0, 1, 2, 7, 8, 9, 1 << 30, maxVersion - 1, maxVersion, maxVersion + 1, 1<<32 + 1, math.MaxInt64}
	texts := slices.Concat(names, strings.Fields("- * / % .. == != < <= and or not + = . > >= ! & | ... andor spawn nil state"), []string{
		"and ", " +", "+-", "NOT", "\n", "\xff\xfe", strings.Repeat("t", 1023), strings.Repeat("t", 1024), strings.Repeat("t", 1025), strings.Repeat("ä", 512), strings.Repeat("ä", 513), strings.Repeat("\"", 1024),
	})
	table := tableOfFields()
	for kind := firstKind; kind <= lastKind; kind++ {
		l, i := placed(least(kind))
		checkCheck(t, "the least tree of the kind "+strconv.Itoa(kind), l, api.OK, 0)
		for _, name := range names {
			for _, n := range numbers {
				for _, text := range texts {
					l[i].Name, l[i].N, l[i].Text = name, n, text
					want, wantAt := api.ErrForm, i
					if table[kind].allow(l[i]) {
						want, wantAt = api.OK, 0
					}
					if err, at := tree.Check(l); err != want || at != wantAt {
						t.Errorf("Check of %+v at %d = %d, %d; want %d, %d", l[i], i, err, at, want, wantAt)
					}
				}
			}
		}
		if t.Failed() {
			return
		}
	}
}

// P9.3: Check, the kinds of the children

// class returns a letter for each of the groups of kinds that the table distinguishes.
func class(kind int) string {
	switch {
	case kind == api.NUse:
		return "u"
	case kind == api.NFun:
		return "f"
	case kind == api.NParam:
		return "p"
	case kind == api.NBlock:
		return "b"
	case api.NLet <= kind && kind <= api.NDo:
		return "s"
	case api.NNil <= kind && kind <= api.NSpawn:
		return "e"
	}
	return "x"
}

// tableOfChildren returns, for each kind, the classes of its children, as a pattern.
func tableOfChildren() map[int]*regexp.Regexp {
	table := map[int]*regexp.Regexp{}
	set := func(pattern string, kinds ...int) {
		for _, kind := range kinds {
			table[kind] = regexp.MustCompile("^(" + pattern + ")$")
		}
	}
	set("u*f*", api.NModule)
	set("p{0,8}b", api.NFun, api.NFn)
	set("s*", api.NBlock)
	set("e", api.NLet, api.NAssign, api.NReturn, api.NPut, api.NEmit, api.NDo, api.NUn, api.NSpawn)
	set("eee", api.NStore)
	set("ebb?", api.NIf)
	set("eb", api.NWhile)
	set("", api.NUse, api.NParam, api.NBreak, api.NContinue, api.NYield, api.NNil, api.NTable, api.NState, api.NInt, api.NText, api.NName)
	set("ee{0,8}", api.NCall)
	set("e{0,8}", api.NOuter)
	set("ee", api.NIndex, api.NBin)
	return table
}

// checkChildren checks a tree of the kind with children of these kinds.
func checkChildren(t *testing.T, table map[int]*regexp.Regexp, kind int, children []int) {
	t.Helper()
	var below [][]api.Node
	classes := ""
	for _, k := range children {
		below = append(below, least(k))
		classes += class(k)
	}
	l, i := placed(with(least(kind)[0], below...))
	want, wantAt := api.ErrForm, i
	if table[kind].MatchString(classes) {
		want, wantAt = api.OK, 0
	}
	checkCheck(t, "a node of the kind "+strconv.Itoa(kind)+" with children "+classes, l, want, wantAt)
}

func TestCheckChildrenOfAllKinds(t *testing.T) {
	table := tableOfChildren()
	for kind := firstKind; kind <= lastKind; kind++ {
		for first := -1; first <= lastKind+1; first++ {
			checkChildren(t, table, kind, []int{first})
			for second := -1; second <= lastKind+1; second++ {
				checkChildren(t, table, kind, []int{first, second})
			}
		}
		for _, odd := range []int{math.MinInt, math.MaxInt, 1 << 32, 1<<32 + api.NNil, -api.NNil, 256 + api.NNil} {
			checkChildren(t, table, kind, []int{odd})
			checkChildren(t, table, kind, []int{api.NNil, odd})
		}
	}
}

func TestCheckSeveralChildren(t *testing.T) {
	// One kind or two of each class; two where the ends of a range could be missed.
	some := []int{0, api.NModule, api.NUse, api.NFun, api.NParam, api.NBlock, api.NLet, api.NDo, api.NNil, api.NSpawn, lastKind + 1}
	const longest = 3
	table := tableOfChildren()
	for kind := firstKind; kind <= lastKind; kind++ {
		var all func(children []int)
		all = func(children []int) {
			checkChildren(t, table, kind, children)
			if len(children) == longest || t.Failed() {
				return
			}
			for _, k := range some {
				all(append(slices.Clone(children), k))
			}
		}
		all(nil)
	}
}

func TestCheckManyChildren(t *testing.T) {
	table := tableOfChildren()
	lists := [][]int{nil, {api.NNil}, {api.NBlock}, {api.NParam}, {api.NBlock, api.NBlock}, {api.NUse}, {api.NFun}, {api.NBreak}}
	for kind := firstKind; kind <= lastKind; kind++ {
		for _, repeated := range []int{api.NUse, api.NFun, api.NParam, api.NBlock, api.NBreak, api.NName, 0} {
			for _, n := range []int{0, 1, 2, 3, 7, 8, 9, 10, 16, 17, 100} {
				for _, rest := range lists {
					run := slices.Repeat([]int{repeated}, n)
					checkChildren(t, table, kind, slices.Concat(run, rest))
					checkChildren(t, table, kind, slices.Concat(rest, run))
				}
			}
		}
	}
}

// P9.3: Check, the first of several nodes

func TestCheckReturnsTheFirstNode(t *testing.T) {
	name := with(api.Node{Kind: api.NName, Name: "x"})
	call := with(api.Node{Kind: api.NCall}, name, name)
	use := with(api.Node{Kind: api.NUse, Name: "n", Text: "g", N: 1})
	param := with(api.Node{Kind: api.NParam, Name: "x"})
	l := module(use, use, fun(param, param, block(do(call), do(call))), fun(block()))
	checkCheck(t, "a module", l, api.OK, 0)
	for i := range l {
		one := changed(l, i, func(n *api.Node) { n.Name = "?" })
		checkCheck(t, "a module with a false name at "+strconv.Itoa(i), one, api.ErrForm, i)
		for j := i + 1; j < len(l); j++ {
			two := changed(one, j, func(n *api.Node) { n.Name = "?" })
			checkCheck(t, "a module with false names", two, api.ErrForm, i)
			two = changed(l, i, func(n *api.Node) { n.Text = "?" })
			two = changed(two, j, func(n *api.Node) { n.N = -1 })
			checkCheck(t, "a module with false fields", two, api.ErrForm, i)
		}
	}
}

func TestCheckNamesTheParentOfAChildOfAFalseKind(t *testing.T) {
	l := module(fun(block(do(not(leaf(api.NNil)))), fun(block())))
	// The second function is a child of the first one, and comes after its block, which is valid.
	checkCheck(t, "a function in a function", l, api.ErrForm, 1)
	l = module(fun(block(do(not(leaf(api.NBreak)))), block()))
	checkCheck(t, "two blocks, and a statement in an expression", l, api.ErrForm, 1)
	l = module(fun(block(do(not(leaf(api.NBreak))))))
	checkCheck(t, "a statement in an expression", l, api.ErrForm, 4)
	l = module(fun(block(do(not(leaf(0))))))
	checkCheck(t, "no kind in an expression", l, api.ErrForm, 4)
	l = module(fun(block(do(not(with(api.Node{Kind: api.NBin, Text: "+"}))))))
	checkCheck(t, "an operator without operands", l, api.ErrForm, 5)
	l = module(fun(block(do(leaf(api.NUn)))))
	checkCheck(t, "an operator without a text and an operand", l, api.ErrForm, 4)
	l = module(fun(block(with(api.Node{Kind: api.NDo, Name: "x"}, leaf(api.NLet)))))
	checkCheck(t, "a false field of a node, and a child of a false kind", l, api.ErrForm, 3)
	l = module(fun(block(leaf(api.NLet))))
	checkCheck(t, "false fields of a leaf of an allowed kind", l, api.ErrForm, 3)
}

// randomTree returns a valid tree of that kind, whose size is about the budget.
func randomTree(r *rand.Rand, kind, budget int) []api.Node {
	n := least(kind)[0]
	var below [][]api.Node
	add := func(count int, pick func() int) {
		for range count {
			below = append(below, randomTree(r, pick(), budget/(count+1)))
		}
	}
	one := func(kind int) func() int { return func() int { return kind } }
	stmt := func() int { return api.NLet + r.Intn(12) }
	expr := func() int {
		if budget < 2 {
			return []int{api.NNil, api.NInt, api.NText, api.NName, api.NTable, api.NState}[r.Intn(6)]
		}
		return api.NNil + r.Intn(13)
	}
	switch kind {
	case api.NModule:
		add(r.Intn(4), one(api.NUse))
		add(r.Intn(4), one(api.NFun))
	case api.NFun, api.NFn:
		add(r.Intn(1+api.MaxParams), one(api.NParam))
		add(1, one(api.NBlock))
	case api.NBlock:
		add(r.Intn(2+min(budget, 4)), stmt)
	case api.NLet, api.NAssign, api.NReturn, api.NPut, api.NEmit, api.NDo, api.NUn, api.NSpawn:
		add(1, expr)
	case api.NIndex, api.NBin:
		add(2, expr)
	case api.NStore:
		add(3, expr)
	case api.NIf:
		add(1, expr)
		add(1+r.Intn(2), one(api.NBlock))
	case api.NWhile:
		add(1, expr)
		add(1, one(api.NBlock))
	case api.NCall:
		add(1+r.Intn(1+api.MaxParams), expr)
	case api.NOuter:
		add(r.Intn(1+api.MaxParams), expr)
	}
	return with(n, below...)
}

func TestCheckRandomTrees(t *testing.T) {
	r := rand.New(rand.NewSource(2))
	for range 3000 {
		l := randomTree(r, api.NModule, 1+r.Intn(200))
		if len(l) > api.MaxNodes || refDepth(l) > api.MaxDepth {
			continue
		}
		checkCheck(t, "a random tree", l, api.OK, 0)
		// A node of no kind is a child of a false kind.
		i := 1 + r.Intn(len(l))
		if i == len(l) {
			continue
		}
		parent := 0
		for at := range i {
			if slices.Contains(refKids(l, at), i) {
				parent = at
			}
		}
		checkCheck(t, "a random tree with a node of no kind", changed(l, i, func(n *api.Node) { n.Kind = 31 }), api.ErrForm, parent)
		checkCheck(t, "a random tree with a false text", changed(l, i, func(n *api.Node) { n.Text = strings.Repeat("?", 1025) }), api.ErrForm, i)
		if t.Failed() {
			return
		}
	}
}

// P9.4: Expr, Stmt, Same

func TestExprAndStmt(t *testing.T) {
	exprs := []int{api.NNil, api.NInt, api.NText, api.NName, api.NCall, api.NOuter, api.NFn, api.NTable, api.NIndex, api.NBin, api.NUn, api.NState, api.NSpawn}
	stmts := []int{api.NLet, api.NAssign, api.NStore, api.NIf, api.NWhile, api.NBreak, api.NContinue, api.NReturn, api.NPut, api.NEmit, api.NYield, api.NDo}
	kinds := []int{math.MinInt, math.MaxInt, 1 << 32, 1<<32 + api.NNil, 1<<32 + api.NLet}
	for kind := -300; kind <= 300; kind++ {
		kinds = append(kinds, kind)
	}
	for _, kind := range kinds {
		if got, want := tree.Expr(kind), slices.Contains(exprs, kind); got != want {
			t.Errorf("Expr(%d) = %v; want %v", kind, got, want)
		}
		if got, want := tree.Stmt(kind), slices.Contains(stmts, kind); got != want {
			t.Errorf("Stmt(%d) = %v; want %v", kind, got, want)
		}
	}
}

func TestSame(t *testing.T) {
	if !tree.Same(nil, nil) || !tree.Same(nil, []api.Node{}) || !tree.Same([]api.Node{}, nil) {
		t.Error("empty lists are not the same")
	}
	l := sized(6)
	for i := range len(l) + 1 {
		for j := range len(l) + 1 {
			if got := tree.Same(l[:i], slices.Clone(l)[:j]); got != (i == j) {
				t.Errorf("Same of %d and %d nodes = %v", i, j, got)
			}
		}
	}
	for i := range l {
		for _, change := range []func(n *api.Node){
			func(n *api.Node) { n.Kind++ },
			func(n *api.Node) { n.Kids++ },
			func(n *api.Node) { n.Name += "x" },
			func(n *api.Node) { n.N++ },
			func(n *api.Node) { n.Text += "x" },
		} {
			other := changed(l, i, change)
			if tree.Same(l, other) || tree.Same(other, l) || !tree.Same(other, slices.Clone(other)) {
				t.Errorf("Same with another node %d", i)
			}
		}
	}
	// The lists need not be trees, and the order of their nodes counts.
	a, b := api.Node{Kids: -1, Name: "a"}, api.Node{Kids: math.MaxInt, Kind: -7}
	if tree.Same([]api.Node{a, b}, []api.Node{b, a}) || !tree.Same([]api.Node{a, b}, []api.Node{a, b}) {
		t.Error("Same of lists that are no trees")
	}
}

// P9.5: property

func checkProperty(t *testing.T, l []api.Node) {
	t.Helper()
	for i := range l {
		end := tree.End(l, i)
		if end < 0 {
			continue
		}
		at := i + 1
		below := []api.Node{}
		for _, kid := range tree.Kids(l, i) {
			if kid != at {
				t.Fatalf("Kids(%v, %d): %d; want %d", kidsOf(l), i, kid, at)
			}
			below = append(below, tree.Sub(l, kid)...)
			at = tree.End(l, kid)
		}
		if at != end || !tree.Same(below, l[i+1:end]) || len(tree.Kids(l, i)) != l[i].Kids {
			t.Fatalf("the children of node %d of %v end at %d; want %d", i, kidsOf(l), at, end)
		}
	}
}

func TestNodesBetweenANodeAndItsEnd(t *testing.T) {
	r := rand.New(rand.NewSource(3))
	for range 500 {
		checkProperty(t, randomTree(r, api.NModule, 1+r.Intn(60)))
		junk := make([]api.Node, r.Intn(20))
		for i := range junk {
			junk[i].Kids = randomNumber(r)
		}
		checkProperty(t, junk)
	}
}

// R4: memory

func TestArgumentsAreNotModified(t *testing.T) {
	r := rand.New(rand.NewSource(4))
	for range 200 {
		l := randomTree(r, api.NModule, 1+r.Intn(60))
		// Nodes in the spare capacity of the argument.
		whole := slices.Concat(l, counts(1, 0, 5))
		before := slices.Clone(whole)
		arg := whole[:len(l)]
		i := r.Intn(len(l))
		sub, kids := tree.Sub(arg, i), tree.Kids(arg, i)
		tree.End(arg, i)
		tree.Depth(arg)
		tree.Check(arg)
		tree.Same(arg, arg)
		sub = sub[:cap(sub)]
		for at := range sub {
			sub[at] = api.Node{Kind: -1, Kids: -1}
		}
		kids = kids[:cap(kids)]
		for at := range kids {
			kids[at] = -1
		}
		if !slices.Equal(whole, before) {
			t.Fatal("an argument was modified")
		}
		if again := tree.Sub(arg, i); !slices.Equal(again, before[i:refEnd(before, i)]) {
			t.Fatal("a result is not new memory")
		}
		if again := tree.Kids(arg, i); !slices.Equal(again, refKids(before, i)) {
			t.Fatal("a result is not new memory")
		}
	}
}

// A list ends at its length, whatever is in its spare capacity.
func TestSpareCapacityIsNotRead(t *testing.T) {
	whole := module(fun(block(leaf(api.NBreak))))
	for n := 1; n < len(whole); n++ {
		l := whole[:n]
		if end, depth := tree.End(l, 0), tree.Depth(l); end != -1 || depth != -1 {
			t.Errorf("%d of %d nodes: End = %d, Depth = %d", n, len(whole), end, depth)
		}
		if end := tree.End(l, n); end != -1 {
			t.Errorf("%d of %d nodes: End = %d", n, len(whole), end)
		}
		checkCheck(t, "a beginning of a module", l, api.ErrShort, 0)
	}
}
