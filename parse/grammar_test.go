package parse_test

import (
	"regexp"
	"strings"

	"chrysalis/api"
)

// grammar is that of the chapter, except that the restriction of "=" is part of it: a target is an expression whose tree is an NName or an NIndex.
const grammar = `
module = "module" NAME INT ";" { use } { fun }
use    = "use" NAME "." NAME "/" INT ";"
fun    = "fn" NAME params block
params = "(" [ NAME { "," NAME } ] ")"
block  = "{" { stmt } "}"
stmt   = "let" NAME "=" expr ";" | "if" expr block [ "else" block ] | "while" expr block
       | ( "break" | "continue" | "yield" ) ";" | ( "return" | "put" | "emit" ) expr ";"
       | expr ";" | target "=" expr ";"
target = NAME | post "[" expr "]" | "(" target ")"
expr   = and { "or" and }
and    = cmp { "and" cmp }
cmp    = sum [ ( "==" | "!=" | "<" | "<=" ) sum ]
sum    = prod { ( "+" | "-" | ".." ) prod }
prod   = unary { ( "*" | "/" | "%" ) unary }
unary  = ( "-" | "not" | "len" | "spawn" ) unary | post
post   = prim { args | "[" expr "]" }
args   = "(" [ expr { "," expr } ] ")"
prim   = INT | TEXT | "nil" | "state" | NAME [ "." NAME args ] | "{" "}" | "fn" params block | "(" expr ")"
`

// rules contains, for each symbol that is not a token, the rows of symbols for which it stands. Tokens are in quotes or in capitals.
type rules map[string][][]string

var symbol = regexp.MustCompile(`"[^"]+"|[a-zA-Z]+|[=|(){}\[\]]`)

// ebnf reads the notation of the grammar, and gives each group in brackets a symbol of its own.
type ebnf struct {
	rest  []string
	rules rules
	fresh int
}

func readGrammar(s string) rules {
	e := &ebnf{rest: symbol.FindAllString(s, -1), rules: rules{}}
	for len(e.rest) > 0 {
		name := e.rest[0]
		e.rest = e.rest[2:]
		e.rules[name] = e.rows()
	}
	return e.rules
}

// rows reads alternatives up to a closing bracket, the next rule or the end.
func (e *ebnf) rows() [][]string {
	rows := [][]string{nil}
	for len(e.rest) > 0 && !(len(e.rest) > 1 && e.rest[1] == "=") {
		s := e.rest[0]
		e.rest = e.rest[1:]
		last := len(rows) - 1
		switch s {
		case ")", "}", "]":
			return rows
		case "|":
			rows = append(rows, nil)
		case "(", "{", "[":
			rows[last] = append(rows[last], e.group(s))
		default:
			rows[last] = append(rows[last], s)
		}
	}
	return rows
}

// group reads what stands after an opening bracket and returns a symbol for it.
func (e *ebnf) group(bracket string) string {
	e.fresh++
	name := strings.Repeat("'", e.fresh)
	rows := e.rows()
	if bracket == "{" {
		for i := range rows {
			rows[i] = append(rows[i], name)
		}
	}
	if bracket != "(" {
		rows = append(rows, nil)
	}
	e.rules[name] = rows
	return name
}

// item is a row of a symbol of which the first symbols were found, from the token with the number from on.
type item struct {
	symbol         string
	row, dot, from int
}

// reader is Earley's recognizer: after each token it knows every item with which a text can continue.
type reader struct {
	rules rules
	empty map[string]bool
	sets  [][]item
}

func newReader(r rules, start string) *reader {
	e := &reader{rules: r, empty: emptySymbols(r)}
	var set []item
	for row := range r[start] {
		set = append(set, item{symbol: start, row: row})
	}
	e.sets = [][]item{e.closure(set, 0)}
	return e
}

// emptySymbols returns the symbols that can stand for no token at all.
func emptySymbols(r rules) map[string]bool {
	empty := map[string]bool{}
	for changed := true; changed; {
		changed = false
		for name, rows := range r {
			for _, row := range rows {
				all := true
				for _, s := range row {
					all = all && empty[s]
				}
				if all && !empty[name] {
					empty[name] = true
					changed = true
				}
			}
		}
	}
	return empty
}

// closure adds to a set what follows from its items without a further token.
func (e *reader) closure(set []item, at int) []item {
	known := map[item]bool{}
	var out []item
	add := func(i item) {
		if !known[i] {
			known[i] = true
			out = append(out, i)
		}
	}
	for _, i := range set {
		add(i)
	}
	for n := 0; n < len(out); n++ {
		i := out[n]
		row := e.rules[i.symbol][i.row]
		if i.dot == len(row) {
			before := out
			if i.from < at {
				before = e.sets[i.from]
			}
			for _, j := range before {
				if r := e.rules[j.symbol][j.row]; j.dot < len(r) && r[j.dot] == i.symbol {
					j.dot++
					add(j)
				}
			}
			continue
		}
		next := row[i.dot]
		for k := range e.rules[next] {
			add(item{symbol: next, row: k, from: at})
		}
		if e.empty[next] {
			i.dot++
			add(i)
		}
	}
	return out
}

// push reads a token, and reports whether a text can continue with it. If none can, nothing changes.
func (e *reader) push(t api.Token) bool {
	var set []item
	for _, i := range e.sets[len(e.sets)-1] {
		if row := e.rules[i.symbol][i.row]; i.dot < len(row) && isToken(row[i.dot], t) {
			i.dot++
			set = append(set, i)
		}
	}
	if set == nil {
		return false
	}
	e.sets = append(e.sets, e.closure(set, len(e.sets)))
	return true
}

// pop takes the last token back.
func (e *reader) pop() {
	e.sets = e.sets[:len(e.sets)-1]
}

// complete reports whether the tokens are a text of the start symbol.
func (e *reader) complete(start string) bool {
	for _, i := range e.sets[len(e.sets)-1] {
		if i.symbol == start && i.from == 0 && i.dot == len(e.rules[start][i.row]) {
			return true
		}
	}
	return false
}

func isToken(symbol string, t api.Token) bool {
	switch symbol {
	case "NAME":
		return t.Kind == api.TName
	case "INT":
		return t.Kind == api.TInt
	case "TEXT":
		return t.Kind == api.TText
	}
	return (t.Kind == api.TKey || t.Kind == api.TMark) && symbol == `"`+t.Text+`"`
}
