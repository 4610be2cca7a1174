package gen_test

import (
	"fmt"

	"chrysalis/api"
	"chrysalis/inst"
)

// slot is a register: it contains nothing (after the moments at which only those below a bound count), a value, or a cell.
type slot struct {
	is   string
	v    api.Value
	cell *api.Value
}

// made is a closure of the machine.
type made struct {
	proto int
	cells []*api.Value
}

// machine executes the code of a unit.
type machine struct {
	*world
	u        api.Unit
	closures []made
}

// call is a call of a function that the machine executes.
type call struct {
	*machine
	p     api.Proto
	cells []*api.Value
	regs  []slot
	// live is below how many registers the machine may see something.
	live int
}

func (m *machine) own(number int, args []api.Value) api.Value {
	return m.run(made{proto: number}, args)
}

func (m *machine) closure(fn api.Value, args []api.Value) api.Value {
	if fn.Kind != api.KFn {
		m.fail("call")
	}
	if m.u.Protos[m.closures[fn.N].proto].Params != len(args) {
		m.fail("arity")
	}
	return m.run(m.closures[fn.N], args)
}

func (m *machine) run(fn made, args []api.Value) api.Value {
	p := m.u.Protos[fn.proto]
	c := &call{machine: m, p: p, cells: fn.cells, regs: make([]slot, p.Regs), live: len(args)}
	for i, v := range args {
		c.put(i, v)
	}
	m.enter(c.refs)
	defer m.leave()
	return c.execute()
}

// refs returns the values of the registers that count, and those of the captures.
func (c *call) refs() (l []api.Value) {
	for _, s := range c.regs[:c.live] {
		switch s.is {
		case "value":
			l = append(l, s.v)
		case "cell":
			l = append(l, *s.cell)
		default:
			panic(mistake("a register that counts contains nothing"))
		}
	}
	return append(l, values(c.cells)...)
}

// keep loses the contents of all registers but the first ones.
func (c *call) keep(live int) {
	c.live = live
	clear(c.regs[live:])
}

func (c *call) get(reg int) api.Value {
	if c.regs[reg].is != "value" {
		panic(mistake(fmt.Sprintf("register %d contains no value", reg)))
	}
	return c.regs[reg].v
}

func (c *call) cell(reg int) *api.Value {
	if c.regs[reg].is != "cell" {
		panic(mistake(fmt.Sprintf("register %d contains no cell", reg)))
	}
	return c.regs[reg].cell
}

func (c *call) put(reg int, v api.Value) {
	c.regs[reg] = slot{is: "value", v: v}
}

func (c *call) list(from, size int) (l []api.Value) {
	for i := range size {
		l = append(l, c.get(from+i))
	}
	return l
}

func (c *call) execute() api.Value {
	for at := 0; ; at++ {
		x := c.p.Code[at]
		switch x.Op {
		case inst.Return:
			return c.get(x.A)
		case inst.Jump:
			at = inst.Wide(x) - 1
		case inst.False, inst.True:
			if truth(c.get(x.A)) == (x.Op == inst.True) {
				at = inst.Wide(x) - 1
			}
		default:
			c.step(x)
		}
	}
}

func (c *call) step(x api.Inst) {
	switch x.Op {
	case inst.Tick:
		c.keep(x.A)
		c.tick()
	case inst.Yield:
		c.keep(x.A)
		c.pause("yield")
	case inst.Box:
		v := c.get(x.A)
		c.regs[x.A] = slot{is: "cell", cell: &v}
	case inst.Set:
		*c.cell(x.A) = c.get(x.B)
	case inst.Upset:
		*c.cells[x.A] = c.get(x.B)
	case inst.Store:
		c.store(c.get(x.A), c.get(x.B), c.get(x.C))
	case inst.Put:
		c.state = c.get(x.A)
		c.note("put")
	case inst.Emit:
		c.note("emit %s", shown(c.get(x.A)))
	default:
		// The numbers of the instruction are read before its result is stored.
		v := c.result(x)
		c.put(x.A, v)
	}
}

// result returns the value that an instruction stores in the register A.
func (c *call) result(x api.Inst) api.Value {
	switch x.Op {
	case inst.Nil:
		return api.Value{}
	case inst.Const:
		return c.p.Consts[inst.Wide(x)]
	case inst.Move:
		return c.get(x.B)
	case inst.Get:
		return *c.cell(x.B)
	case inst.Up:
		return *c.cells[x.B]
	case inst.Neg:
		return c.one("-", c.get(x.B))
	case inst.Not, inst.Len:
		return c.one(inst.Name(x.Op), c.get(x.B))
	case inst.Table:
		return c.table()
	case inst.Index:
		return c.world.get(c.get(x.B), c.get(x.C))
	case inst.State:
		return c.state
	case inst.Spawn:
		return c.start(c.get(x.B))
	case inst.Fn:
		return c.create(inst.Wide(x))
	case inst.Own, inst.Use, inst.Call:
		return c.called(x)
	}
	return c.two([]string{"+", "-", "*", "/", "%", "..", "==", "!=", "<", "<="}[x.Op-inst.Add], c.get(x.B), c.get(x.C))
}

func (c *call) start(fn api.Value) api.Value {
	if fn.Kind != api.KFn {
		c.fail("call")
	}
	if c.u.Protos[c.closures[fn.N].proto].Params != 0 {
		c.fail("arity")
	}
	return c.spawn(fn)
}

func (c *call) create(proto int) api.Value {
	fn := made{proto: proto}
	for _, captured := range c.u.Protos[proto].Caps {
		if captured.Up {
			fn.cells = append(fn.cells, c.cells[captured.Index])
		} else {
			fn.cells = append(fn.cells, c.cell(captured.Index))
		}
	}
	c.closures = append(c.closures, fn)
	return api.Value{Kind: api.KFn, N: int64(len(c.closures) - 1)}
}

// called returns the result of a call. The function waits with the registers below B.
func (c *call) called(x api.Inst) api.Value {
	switch x.Op {
	case inst.Own:
		args := c.list(x.B, c.u.Protos[x.C].Params)
		c.keep(x.B)
		return c.own(x.C, args)
	case inst.Use:
		args := c.list(x.B, c.u.Uses[x.C].Params)
		c.keep(x.B)
		return c.outer(x.C, args)
	}
	fn, args := c.get(x.B), c.list(x.B+1, x.C)
	c.keep(x.B)
	return c.closure(fn, args)
}
