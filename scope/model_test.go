package scope_test

import (
	"slices"

	"chrysalis/api"
	"chrysalis/scope"
	"chrysalis/tree"
)

// model answers what the chapter defines by going through the whole tree for each question. It keeps only what is asked most often.
type model struct {
	l []api.Node
	// The node around each node, and the index after its tree.
	parent, end []int
	// order contains the nodes as they are visited, and time where each of them stands in it.
	order, time []int
	// funs contains the nodes of the functions by number.
	funs []int
	top  int
	// around contains the number of the function that directly encloses each node, or -1.
	around []int
	// found contains the declaration of the visible variable with the name of each node, or -1.
	found []int
}

func newModel(l []api.Node) *model {
	m := &model{l: l, parent: make([]int, len(l)), time: make([]int, len(l))}
	m.parent[0] = -1
	m.visit(0)
	for t, x := range m.order {
		m.time[x] = t
	}
	m.funs = m.all(m.order, api.NFun)
	m.top = len(m.funs)
	m.funs = append(m.funs, m.all(m.order, api.NFn)...)
	for x := range l {
		m.end = append(m.end, tree.End(l, x))
		m.around = append(m.around, slices.Index(m.funs, m.above(x, api.NFun, api.NFn)))
	}
	for x := range l {
		m.found = append(m.found, m.find(x))
	}
	return m
}

func (m *model) visit(x int) {
	if m.l[x].Kind != api.NLet {
		m.order = append(m.order, x)
	}
	for _, kid := range tree.Kids(m.l, x) {
		m.parent[kid] = x
		m.visit(kid)
	}
	if m.l[x].Kind == api.NLet {
		m.order = append(m.order, x)
	}
}

// all returns the nodes of these kinds, in the order of the given ones.
func (m *model) all(nodes []int, kinds ...int) []int {
	var found []int
	for _, x := range nodes {
		if slices.Contains(kinds, m.l[x].Kind) {
			found = append(found, x)
		}
	}
	return found
}

// inside reports whether x is a node of the tree that begins at y.
func (m *model) inside(x, y int) bool {
	return y <= x && x < m.end[y]
}

// above returns the first node around x that has one of these kinds, or -1.
func (m *model) above(x int, kinds ...int) int {
	for y := m.parent[x]; y >= 0; y = m.parent[y] {
		if slices.Contains(kinds, m.l[y].Kind) {
			return y
		}
	}
	return -1
}

// variables returns the declarations of the variables of a function, in their order.
func (m *model) variables(f int) []int {
	var found []int
	for _, d := range m.all(m.order, api.NParam, api.NLet) {
		if m.around[d] == f {
			found = append(found, d)
		}
	}
	return found
}

// number returns the number of the variable that d declares.
func (m *model) number(d int) int {
	return slices.Index(m.variables(m.around[d]), d)
}

// visible reports whether the variable that d declares is visible at x, which is visited at that time.
func (m *model) visible(d, x, time int) bool {
	// The node around an NLet is its block, and that around an NParam is its function.
	return m.time[d] < time && m.inside(x, m.parent[d])
}

func (m *model) find(x int) int {
	for _, d := range m.all(m.order, api.NParam, api.NLet) {
		if m.l[d].Name == m.l[x].Name && m.visible(d, x, m.time[x]) {
			return d
		}
	}
	return -1
}

// own returns the number of the function of the module that x refers to, or -1.
func (m *model) own(x int) int {
	call := m.parent[x]
	if m.l[x].Kind != api.NName || m.l[call].Kind != api.NCall || x != call+1 || m.found[x] >= 0 {
		return -1
	}
	for f, at := range m.funs[:m.top] {
		if m.l[at].Name == m.l[x].Name && m.l[at].Kids-1 == m.l[call].Kids-1 {
			return f
		}
	}
	return -1
}

// use returns the number of the use that the NOuter x refers to, or -1.
func (m *model) use(x int) int {
	for u, at := range m.all(m.order, api.NUse) {
		if m.l[at].Name == m.l[x].Name && m.l[at].Text == m.l[x].Text && m.l[at].N == int64(m.l[x].Kids) {
			return u
		}
	}
	return -1
}

// captured returns the declarations of the variables that a function captures, in the order of the captures.
func (m *model) captured(f int) []int {
	var found []int
	for _, x := range m.all(m.order, api.NName, api.NAssign) {
		d := m.found[x]
		if d < 0 || !m.inside(x, m.funs[f]) || m.inside(d, m.funs[f]) || slices.Contains(found, d) {
			continue
		}
		found = append(found, d)
	}
	return found
}

func (m *model) caps(f int) []api.Cap {
	var caps []api.Cap
	around := m.around[m.funs[f]]
	for _, d := range m.captured(f) {
		if m.around[d] == around {
			caps = append(caps, api.Cap{Index: m.number(d)})
		} else {
			caps = append(caps, api.Cap{Up: true, Index: slices.Index(m.captured(around), d)})
		}
	}
	return caps
}

func (m *model) height(x int) int {
	kids := tree.Kids(m.l, x)
	// at returns the greatest height of the children, where as many values as the numbers say are kept.
	at := func(least int, kept ...int) int {
		for i, kid := range kids[len(kids)-len(kept):] {
			least = max(least, kept[i]+m.height(kid))
		}
		return least
	}
	arguments := []int{0, 1, 2, 3, 4, 5, 6, 7}
	switch m.l[x].Kind {
	case api.NUn, api.NSpawn:
		return m.height(kids[0])
	case api.NBin:
		if m.l[x].Text == "and" || m.l[x].Text == "or" {
			return at(0, 0, 0)
		}
		return at(0, 0, 1)
	case api.NIndex:
		return at(0, 0, 1)
	case api.NOuter:
		return at(1, arguments[:len(kids)]...)
	case api.NCall:
		if m.own(kids[0]) >= 0 {
			return at(1, arguments[:len(kids)-1]...)
		}
		return max(m.height(kids[0]), at(0, []int{1, 2, 3, 4, 5, 6, 7, 8}[:len(kids)-1]...))
	}
	return 1
}

// heightOf returns the height of the expressions of a statement.
func (m *model) heightOf(s int) int {
	height := 0
	for i, kid := range tree.Kids(m.l, s) {
		if tree.Expr(m.l[kid].Kind) {
			height = max(height, i+m.height(kid))
		}
	}
	return height
}

func (m *model) need(f int) int {
	need := 0
	count := func(x, time, more int) {
		for _, d := range m.variables(f) {
			if m.visible(d, x, time) {
				more++
			}
		}
		need = max(need, more)
	}
	for x, n := range m.l {
		switch {
		case m.around[x] != f:
		case n.Kind == api.NParam || n.Kind == api.NLet:
			count(x, m.time[x]+1, 0)
			fallthrough
		case tree.Stmt(n.Kind):
			// The time at which the first node of the statement is visited.
			count(x, slices.Min(m.time[x:m.end[x]]), m.heightOf(x))
		}
	}
	return need
}

func (m *model) info() scope.Info {
	info := scope.Info{Top: m.top, Refs: make([]api.Ref, len(m.l))}
	for _, at := range m.all(m.order, api.NUse) {
		n := m.l[at]
		info.Uses = append(info.Uses, api.Use{Module: n.Name, Name: n.Text, Params: int(n.N)})
	}
	for f, at := range m.funs {
		fun := api.Fun{Node: at, Parent: m.around[at], Params: m.l[at].Kids - 1, Caps: m.caps(f), Need: m.need(f)}
		for _, d := range m.variables(f) {
			fun.Vars++
			fun.Boxed = append(fun.Boxed, m.boxed(d))
		}
		info.Funs = append(info.Funs, fun)
	}
	for x := range m.l {
		info.Refs[x] = m.ref(x)
	}
	return info
}

// boxed reports whether a function other than its own refers to the variable that d declares.
func (m *model) boxed(d int) bool {
	for _, x := range m.all(m.order, api.NName, api.NAssign) {
		if m.found[x] == d && m.around[x] != m.around[d] {
			return true
		}
	}
	return false
}

func (m *model) ref(x int) api.Ref {
	switch n := m.l[x]; n.Kind {
	case api.NOuter:
		return api.Ref{Kind: api.RUse, Index: m.use(x)}
	case api.NName, api.NAssign:
		f, d := m.around[x], m.found[x]
		switch {
		case d < 0:
			return api.Ref{Kind: api.ROwn, Index: m.own(x)}
		case m.around[d] == f:
			return api.Ref{Kind: api.RLocal, Index: m.number(d)}
		}
		return api.Ref{Kind: api.RUp, Index: slices.Index(m.captured(f), d)}
	}
	return api.Ref{}
}

// failure returns the first error in a valid tree, and its node.
func (m *model) failure() (api.Errno, int) {
	for _, kind := range []int{api.NUse, api.NFun} {
		parts, limit := m.all(m.order, kind), api.MaxUses
		if kind == api.NFun {
			limit = api.MaxFuns
		}
		for i, x := range parts {
			if i == limit {
				return api.ErrBig, x
			}
			for _, y := range parts[:i] {
				if m.l[x].Name == m.l[y].Name && m.l[x].Text == m.l[y].Text {
					return api.ErrTwice, x
				}
			}
		}
	}
	for _, x := range m.order {
		if err := m.failureAt(x); err != api.OK {
			return err, x
		}
	}
	for f, x := range m.funs {
		if m.need(f) > api.MaxRegs {
			return api.ErrBig, x
		}
	}
	return api.OK, 0
}

func (m *model) failureAt(x int) api.Errno {
	n := m.l[x]
	found := m.found[x] >= 0
	switch n.Kind {
	case api.NParam, api.NLet:
		if found {
			return api.ErrTwice
		}
		if m.number(x) == api.MaxVars {
			return api.ErrBig
		}
	case api.NAssign:
		if !found {
			return api.ErrScope
		}
	case api.NName:
		if !found && m.own(x) < 0 {
			return api.ErrScope
		}
	case api.NOuter:
		if m.use(x) < 0 {
			return api.ErrScope
		}
	case api.NBreak, api.NContinue:
		if m.l[max(0, m.above(x, api.NWhile, api.NFun, api.NFn))].Kind != api.NWhile {
			return api.ErrScope
		}
	case api.NFn:
		if slices.Index(m.funs, x) == api.MaxProtos {
			return api.ErrBig
		}
	}
	return api.OK
}
