package gen_test

import (
	"slices"

	"chrysalis/api"
	"chrysalis/tree"
)

// named is a variable.
type named struct {
	name string
	cell *api.Value
}

// born is a closure of the walker: the node of its function, and the variables that it captured.
type born struct {
	node     int
	captured []named
}

// walker executes the functions of a tree. It finds variables by their names.
type walker struct {
	*world
	l        []api.Node
	closures []born
}

// visit is a call of a function that the walker executes.
type visit struct {
	*walker
	captured []named
	visible  []named
	// kept are the intermediate results of the expressions that are being evaluated.
	kept   []api.Value
	result api.Value
}

// How a statement ends: the next one follows, or the loop or the function is left.
const (
	goesOn = iota
	breaks
	continues
	returns
)

// parts returns the nodes of that kind in the module.
func (w *walker) parts(kind int) (l []int) {
	for _, at := range tree.Kids(w.l, 0) {
		if w.l[at].Kind == kind {
			l = append(l, at)
		}
	}
	return l
}

func (w *walker) own(number int, args []api.Value) api.Value {
	return w.run(born{node: w.parts(api.NFun)[number]}, args)
}

func (w *walker) closure(fn api.Value, args []api.Value) api.Value {
	if fn.Kind != api.KFn {
		w.fail("call")
	}
	if w.l[w.closures[fn.N].node].Kids != len(args)+1 {
		w.fail("arity")
	}
	return w.run(w.closures[fn.N], args)
}

func (w *walker) run(fn born, args []api.Value) api.Value {
	v := &visit{walker: w, captured: fn.captured}
	kids := tree.Kids(w.l, fn.node)
	for i, arg := range args {
		v.declare(w.l[kids[i]].Name, arg)
	}
	w.enter(v.refs)
	defer w.leave()
	v.block(kids[len(kids)-1])
	return v.result
}

func (v *visit) declare(name string, value api.Value) {
	v.visible = append(v.visible, named{name, &value})
}

func (v *visit) refs() (l []api.Value) {
	for _, n := range v.visible {
		l = append(l, *n.cell)
	}
	l = append(l, v.kept...)
	for _, n := range v.captured {
		l = append(l, *n.cell)
	}
	return l
}

// find returns the variable with that name, or nil.
func (v *visit) find(name string) *api.Value {
	for _, n := range slices.Concat(v.visible, v.captured) {
		if n.name == name {
			return n.cell
		}
	}
	return nil
}

func (v *visit) block(at int) int {
	before := len(v.visible)
	defer func() { v.visible = v.visible[:before] }()
	for _, kid := range tree.Kids(v.l, at) {
		v.tick()
		if how := v.stmt(kid); how != goesOn {
			return how
		}
	}
	return goesOn
}

func (v *visit) stmt(at int) int {
	n, kids := v.l[at], tree.Kids(v.l, at)
	switch n.Kind {
	case api.NLet:
		v.declare(n.Name, v.expr(kids[0]))
	case api.NAssign:
		value := v.expr(kids[0])
		*v.find(n.Name) = value
	case api.NStore:
		l := v.row(kids)
		v.store(l[0], l[1], l[2])
	case api.NIf:
		if truth(v.expr(kids[0])) {
			return v.block(kids[1])
		} else if len(kids) == 3 {
			return v.block(kids[2])
		}
	case api.NWhile:
		return v.while(kids)
	case api.NBreak:
		return breaks
	case api.NContinue:
		return continues
	case api.NReturn:
		v.result = v.expr(kids[0])
		return returns
	case api.NPut:
		v.state = v.expr(kids[0])
		v.note("put")
	case api.NEmit:
		value := v.expr(kids[0])
		v.note("emit %s", shown(value))
	case api.NYield:
		v.pause("yield")
	case api.NDo:
		v.expr(kids[0])
	}
	return goesOn
}

// while executes a loop. The statement has begun, so its first evaluation has been counted.
func (v *visit) while(kids []int) int {
	for truth(v.expr(kids[0])) {
		if how := v.block(kids[1]); how == breaks {
			return goesOn
		} else if how == returns {
			return returns
		}
		v.tick()
	}
	return goesOn
}

// row evaluates expressions. Each value is kept until the last one is there.
func (v *visit) row(kids []int) []api.Value {
	before := len(v.kept)
	for _, kid := range kids {
		value := v.expr(kid)
		v.kept = append(v.kept, value)
	}
	l := slices.Clone(v.kept[before:])
	v.kept = v.kept[:before]
	return l
}

func (v *visit) expr(at int) api.Value {
	n, kids := v.l[at], tree.Kids(v.l, at)
	switch n.Kind {
	case api.NInt:
		return api.Value{Kind: api.KInt, N: n.N}
	case api.NText:
		return api.Value{Kind: api.KText, S: n.Text}
	case api.NName:
		return *v.find(n.Name)
	case api.NCall:
		return v.call(kids)
	case api.NOuter:
		return v.outer(v.use(n), v.row(kids))
	case api.NFn:
		return v.create(at)
	case api.NTable:
		return v.table()
	case api.NState:
		return v.state
	case api.NIndex:
		l := v.row(kids)
		return v.get(l[0], l[1])
	case api.NBin:
		return v.binary(n.Text, kids)
	case api.NUn:
		return v.one(n.Text, v.expr(kids[0]))
	case api.NSpawn:
		return v.start(v.expr(kids[0]))
	}
	return api.Value{}
}

func (v *visit) binary(op string, kids []int) api.Value {
	if op != "and" && op != "or" {
		l := v.row(kids)
		return v.two(op, l[0], l[1])
	}
	if first := v.expr(kids[0]); truth(first) == (op == "or") {
		return first
	}
	return v.expr(kids[1])
}

func (v *visit) call(kids []int) api.Value {
	if n := v.l[kids[0]]; n.Kind == api.NName && v.find(n.Name) == nil {
		number := slices.IndexFunc(v.parts(api.NFun), func(at int) bool { return v.l[at].Name == n.Name })
		return v.own(number, v.row(kids[1:]))
	}
	l := v.row(kids)
	return v.closure(l[0], l[1:])
}

func (v *visit) use(n api.Node) int {
	return slices.IndexFunc(v.parts(api.NUse), func(at int) bool { return v.l[at].Name == n.Name && v.l[at].Text == n.Text })
}

// create creates a closure. It captures the variables whose names occur in its function, in the order in which they occur first.
func (v *visit) create(at int) api.Value {
	fn := born{node: at}
	for _, n := range tree.Sub(v.l, at) {
		known := slices.ContainsFunc(fn.captured, func(c named) bool { return c.name == n.Name })
		if cell := v.find(n.Name); cell != nil && !known && (n.Kind == api.NName || n.Kind == api.NAssign) {
			fn.captured = append(fn.captured, named{n.Name, cell})
		}
	}
	v.closures = append(v.closures, fn)
	return api.Value{Kind: api.KFn, N: int64(len(v.closures) - 1)}
}

func (v *visit) start(fn api.Value) api.Value {
	if fn.Kind != api.KFn {
		v.fail("call")
	}
	if v.l[v.closures[fn.N].node].Kids != 1 {
		v.fail("arity")
	}
	return v.spawn(fn)
}
