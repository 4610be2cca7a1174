package gen_test

import (
	"fmt"
	"slices"
	"strings"

	"chrysalis/api"
)

// A program is executed twice: as the code of its unit (machine_test.go), and as its tree, by the meaning that chapter 21 gives it (walker_test.go). Both note what can be observed in a world.

// ending is the panic that ends a coroutine.
type ending string

// mistake is the panic of code that does what no code may do.
type mistake string

// world is what a program acts on, and what was observed.
type world struct {
	events []string
	tables []map[api.Value]api.Value
	state  api.Value
	// ticks is how many statements may still begin.
	ticks int
	// frames return what the active calls reference, the innermost one last.
	frames  []func() []api.Value
	spawned []api.Value
}

// most is the number of calls that may be active.
const most = 5

func newWorld() *world {
	return &world{ticks: 60}
}

// note notes an event.
func (w *world) note(event string, args ...any) {
	w.events = append(w.events, fmt.Sprintf(event, args...))
}

// pause notes an event at which everything that is referenced can be seen.
func (w *world) pause(event string) {
	var b strings.Builder
	b.WriteString(event)
	for _, frame := range w.frames {
		b.WriteString(" |")
		for _, v := range frame() {
			b.WriteString(" " + shown(v))
		}
	}
	w.note("%s", b.String())
}

func (w *world) fail(code string) {
	panic(ending("fails: " + code))
}

func (w *world) tick() {
	if w.ticks == 0 {
		panic(ending("has no fuel"))
	}
	w.ticks--
	w.pause("tick")
}

// enter begins a call, which references what refs returns.
func (w *world) enter(refs func() []api.Value) {
	if len(w.frames) == most {
		w.fail("deep")
	}
	w.frames = append(w.frames, refs)
	w.pause("call")
}

func (w *world) leave() {
	w.frames = w.frames[:len(w.frames)-1]
}

// coroutine executes a coroutine to its end.
func (w *world) coroutine(run func() api.Value) {
	defer func() {
		w.frames = nil
		// Code that is wrong may also end with a panic of Go.
		if reason := recover(); reason != nil {
			w.note("%v", reason)
		}
	}()
	w.note("ends with %s", shown(run()))
}

func shown(v api.Value) string {
	switch v.Kind {
	case api.KNil:
		return "nil"
	case api.KInt:
		return fmt.Sprint(v.N)
	case api.KText:
		return fmt.Sprintf("%q", v.S)
	}
	return fmt.Sprintf("%c%d", "tfc"[v.Kind-api.KTable], v.N)
}

func number(n int) api.Value {
	return api.Value{Kind: api.KInt, N: int64(n)}
}

func truth(v api.Value) bool {
	return v.Kind != api.KNil && v != number(0)
}

func truthValue(is bool) api.Value {
	if is {
		return number(1)
	}
	return number(0)
}

func (w *world) table() api.Value {
	w.tables = append(w.tables, map[api.Value]api.Value{})
	return api.Value{Kind: api.KTable, N: int64(len(w.tables) - 1)}
}

// entries returns the table under a key that may be one.
func (w *world) entries(t, key api.Value) map[api.Value]api.Value {
	if t.Kind != api.KTable {
		w.fail("type")
	}
	if key.Kind != api.KInt && key.Kind != api.KText {
		w.fail("key")
	}
	return w.tables[t.N]
}

func (w *world) get(t, key api.Value) api.Value {
	return w.entries(t, key)[key]
}

func (w *world) store(t, key, v api.Value) {
	if entries := w.entries(t, key); v.Kind == api.KNil {
		delete(entries, key)
	} else {
		entries[key] = v
	}
	w.note("store %s %s %s", shown(t), shown(key), shown(v))
}

func (w *world) outer(use int, args []api.Value) api.Value {
	w.pause(fmt.Sprintf("use %d with %s", use, joined(args)))
	return number(use + len(w.events)%5)
}

func (w *world) spawn(fn api.Value) api.Value {
	w.spawned = append(w.spawned, fn)
	return api.Value{Kind: api.KCo, N: int64(len(w.spawned))}
}

func (w *world) one(op string, a api.Value) api.Value {
	switch {
	case op == "not":
		return truthValue(!truth(a))
	case op == "len" && a.Kind == api.KText:
		return number(len(a.S))
	case op == "len" && a.Kind == api.KTable:
		return number(len(w.tables[a.N]))
	case op == "-" && a.Kind == api.KInt:
		return api.Value{Kind: api.KInt, N: -a.N}
	}
	w.fail("type")
	return api.Value{}
}

func (w *world) two(op string, a, b api.Value) api.Value {
	both := api.KNil
	if a.Kind == b.Kind {
		both = a.Kind
	}
	switch {
	case op == "==":
		return truthValue(a == b)
	case op == "!=":
		return truthValue(a != b)
	case op == ".." && both == api.KText:
		return api.Value{Kind: api.KText, S: a.S + b.S}
	case both == api.KText && op == "<":
		return truthValue(a.S < b.S)
	case both == api.KText && op == "<=":
		return truthValue(a.S <= b.S)
	case both == api.KInt && op != "..":
		return w.integers(op, a.N, b.N)
	}
	w.fail("type")
	return api.Value{}
}

func (w *world) integers(op string, a, b int64) api.Value {
	if (op == "/" || op == "%") && b == 0 {
		w.fail("zero")
	}
	n := int64(0)
	switch op {
	case "+":
		n = a + b
	case "-":
		n = a - b
	case "*":
		n = a * b
	case "/":
		n = a / b
	case "%":
		n = a % b
	case "<":
		return truthValue(a < b)
	case "<=":
		return truthValue(a <= b)
	}
	return api.Value{Kind: api.KInt, N: n}
}

func joined(l []api.Value) string {
	var texts []string
	for _, v := range l {
		texts = append(texts, shown(v))
	}
	return strings.Join(texts, ", ")
}

// values reads cells.
func values(cells []*api.Value) (l []api.Value) {
	for _, c := range cells {
		l = append(l, *c)
	}
	return l
}

// executor executes functions in a world.
type executor interface {
	// own calls a function of the module.
	own(number int, args []api.Value) api.Value
	// closure calls a closure, or fails.
	closure(fn api.Value, args []api.Value) api.Value
}

// observe returns what is observed when a function is executed, and after it the coroutines that it spawned.
func observe(w *world, e executor, fun, params int) []string {
	w.coroutine(func() api.Value {
		var args []api.Value
		for i := range params {
			args = append(args, number(3-i))
		}
		return e.own(fun, args)
	})
	for i := 0; i < len(w.spawned); i++ {
		w.coroutine(func() api.Value { return e.closure(w.spawned[i], nil) })
	}
	return w.events
}

// output returns what was output and how coroutines ended, among what was observed.
func output(events []string) (l []string) {
	for _, e := range events {
		e, _, _ = strings.Cut(e, " |")
		if out, is := strings.CutPrefix(e, "emit "); is {
			l = append(l, out)
		} else if strings.HasPrefix(e, "ends") || strings.HasPrefix(e, "fails") || strings.HasPrefix(e, "has") {
			l = append(l, e)
		}
	}
	return slices.Clip(l)
}
