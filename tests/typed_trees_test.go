package tests

import (
	"math"
	"math/rand"
	"slices"
	"strconv"
	"strings"

	"loop.example/s01308/impl"
)

func truth(b bool) *tree {
	if b {
		return &tree{op: impl.OpBool, num: 1}
	}
	return &tree{op: impl.OpBool}
}

func quoted(s string) *tree { return &tree{op: impl.OpText, text: s} }

func attr(num int64) *tree { return &tree{op: impl.OpAttr, num: num} }

func letAt(num int64) *tree { return &tree{op: impl.OpLet, num: num} }

// attributeNames and attributeTypes are the table of 4.1, by the numbers.
var (
	attributeNames = []string{"client", "user", "level", "now", "asked", "agreed"}
	attributeTypes = []int{impl.TyText, impl.TyText, impl.TyInt, impl.TyInt, impl.TySet, impl.TySet}
	allTypes       = []int{impl.TyBool, impl.TyInt, impl.TyText, impl.TySet}
)

// typeRows is the other table of 4.1. T is any type, the same all over a row.
var typeRows = map[int]string{
	impl.OpInt:    "-> int",
	impl.OpText:   "-> text",
	impl.OpBool:   "-> bool",
	impl.OpSet:    "-> set",
	impl.OpNeg:    "int -> int",
	impl.OpNot:    "bool -> bool",
	impl.OpSize:   "set -> int",
	impl.OpAdd:    "int int -> int",
	impl.OpSub:    "int int -> int",
	impl.OpMul:    "int int -> int",
	impl.OpDiv:    "int int -> int",
	impl.OpMod:    "int int -> int",
	impl.OpUnion:  "set set -> set",
	impl.OpMeet:   "set set -> set",
	impl.OpMinus:  "set set -> set",
	impl.OpEq:     "T T -> bool",
	impl.OpNe:     "T T -> bool",
	impl.OpLess:   "int int -> bool",
	impl.OpMost:   "int int -> bool",
	impl.OpIn:     "text set -> bool",
	impl.OpWithin: "set set -> bool",
	impl.OpAnd:    "bool bool -> bool",
	impl.OpOr:     "bool bool -> bool",
	impl.OpIf:     "bool T T -> T",
}

var typeNames = map[string]int{"bool": impl.TyBool, "int": impl.TyInt, "text": impl.TyText, "set": impl.TySet}

// rowType gives the type of an operation whose kids have these types, 0 if none.
func rowType(op int, kids []int) int {
	wanted, result, _ := strings.Cut(typeRows[op], "->")
	fields := strings.Fields(wanted)
	if len(fields) != len(kids) {
		return 0
	}
	free := 0
	for i, field := range fields {
		want := typeNames[field]
		if field == "T" && free == 0 {
			free = kids[i]
		}
		if field == "T" {
			want = free
		}
		if kids[i] != want {
			return 0
		}
	}
	if strings.TrimSpace(result) == "T" {
		return free
	}
	return typeNames[strings.TrimSpace(result)]
}

// typedLines writes statements with OpAttr and OpLet nodes as a Typed. The types
// are found from the rows, node by node in their order.
func typedLines(lines []line) impl.Typed {
	p := flatten(lines)
	t := impl.Typed{Nodes: p.Nodes, Stmts: p.Stmts}
	var lets []int
	for _, s := range p.Stmts {
		if s.Kind == impl.SLet {
			lets = append(lets, s.Cond)
		}
	}
	for _, n := range p.Nodes {
		t.Types = append(t.Types, nodeType(n, t.Types, lets))
	}
	return t
}

func nodeType(n impl.Node, types, lets []int) int {
	switch n.Op {
	case impl.OpAttr:
		return attributeTypes[n.Num]
	case impl.OpLet:
		return types[lets[n.Num]]
	}
	var kids []int
	for _, kid := range n.Kids {
		kids = append(kids, types[kid])
	}
	return rowType(n.Op, kids)
}

// secondCheck says once more what Check answers: the nodes are gone through by
// their places, statement by statement, without a tree.
func secondCheck(p impl.Policy) (impl.Typed, impl.Fault) {
	if !isValid(p) {
		return impl.Typed{}, impl.Fault{Code: impl.FShape}
	}
	c := copyPolicy(p)
	out := impl.Typed{Nodes: c.Nodes, Stmts: c.Stmts}
	known := map[string]impl.Node{}
	for num, name := range attributeNames {
		known[name] = impl.Node{Op: impl.OpAttr, Num: int64(num)}
	}
	var lets []int
	upTo := func(top int) impl.Fault {
		for place := len(out.Types); place <= top; place++ {
			if n := &out.Nodes[place]; n.Op == impl.OpName {
				meant, ok := known[n.Text]
				if !ok {
					return impl.Fault{Code: impl.FName, At: place}
				}
				*n = meant
			}
			typ := nodeType(out.Nodes[place], out.Types, lets)
			if typ == 0 {
				return impl.Fault{Code: impl.FType, At: place}
			}
			out.Types = append(out.Types, typ)
		}
		return impl.Fault{}
	}
	for _, s := range p.Stmts {
		if fault := upTo(s.Cond); fault != (impl.Fault{}) {
			return impl.Typed{}, fault
		}
		switch s.Kind {
		case impl.SLet:
			if _, ok := known[s.Name]; ok {
				return impl.Typed{}, impl.Fault{Code: impl.FAgain, At: s.Cond}
			}
			known[s.Name] = impl.Node{Op: impl.OpLet, Num: int64(len(lets))}
			lets = append(lets, s.Cond)
		case impl.SWhen:
			if out.Types[s.Cond] != impl.TyBool {
				return impl.Typed{}, impl.Fault{Code: impl.FType, At: s.Cond}
			}
		}
		if fault := upTo(s.Grant); fault != (impl.Fault{}) {
			return impl.Typed{}, fault
		}
		if s.Grant != -1 && out.Types[s.Grant] != impl.TySet {
			return impl.Typed{}, impl.Fault{Code: impl.FType, At: s.Grant}
		}
	}
	return out, impl.Fault{}
}

// isWellTyped says once more what WellTyped asks: written with names again, and
// with numbers that may be written, it must be what secondCheck makes of that.
func isWellTyped(t impl.Typed) bool {
	written := copyPolicy(impl.Policy{Nodes: t.Nodes, Stmts: t.Stmts})
	var letNames []string
	for _, s := range t.Stmts {
		if s.Kind == impl.SLet {
			letNames = append(letNames, s.Name)
		}
	}
	for i, n := range written.Nodes {
		names := attributeNames
		switch n.Op {
		case impl.OpName:
			return false
		case impl.OpInt:
			written.Nodes[i].Num = 0
			continue
		case impl.OpLet:
			names = letNames
		case impl.OpAttr:
		default:
			continue
		}
		if n.Num < 0 || n.Num >= int64(len(names)) || n.Text != "" {
			return false
		}
		written.Nodes[i].Op, written.Nodes[i].Num, written.Nodes[i].Text = impl.OpName, 0, names[n.Num]
	}
	again, fault := secondCheck(written)
	return fault == (impl.Fault{}) && slices.Equal(again.Types, t.Types)
}

func sameTyped(a, b impl.Typed) bool {
	return slices.Equal(a.Types, b.Types) &&
		samePolicy(impl.Policy{Nodes: a.Nodes, Stmts: a.Stmts}, impl.Policy{Nodes: b.Nodes, Stmts: b.Stmts})
}

func copyTyped(t impl.Typed) impl.Typed {
	p := copyPolicy(impl.Policy{Nodes: t.Nodes, Stmts: t.Stmts})
	return impl.Typed{Nodes: p.Nodes, Stmts: p.Stmts, Types: slices.Clone(t.Types)}
}

func isEmptyTyped(t impl.Typed) bool {
	return len(t.Nodes) == 0 && len(t.Stmts) == 0 && len(t.Types) == 0
}

// written gives the statements with names in place of attributes and lets.
func written(lines []line) []line {
	var names []string
	for _, l := range lines {
		if l.kind == impl.SLet {
			names = append(names, l.name)
		}
	}
	var out []line
	for _, l := range lines {
		l.cond, l.grant = writtenTree(l.cond, names), writtenTree(l.grant, names)
		out = append(out, l)
	}
	return out
}

func writtenTree(t *tree, lets []string) *tree {
	switch {
	case t == nil:
		return nil
	case t.op == impl.OpAttr:
		return named(attributeNames[t.num])
	case t.op == impl.OpLet:
		return named(lets[t.num])
	}
	out := *t
	out.kids = nil
	for _, kid := range t.kids {
		out.kids = append(out.kids, writtenTree(kid, lets))
	}
	return &out
}

// opsOf gives the operators that can have the type, in the order of their numbers.
func opsOf(typ int) []int {
	var ops []int
	for _, op := range operators() {
		result := strings.Fields(typeRows[op])
		last := result[len(result)-1]
		if last == "T" || typeNames[last] == typ {
			ops = append(ops, op)
		}
	}
	return ops
}

// kidTypes gives the types of the kids of an operator of a type, where a choice is
// free by chance.
func kidTypes(random *rand.Rand, op, typ int) []int {
	wanted, result, _ := strings.Cut(typeRows[op], "->")
	free := allTypes[random.Intn(len(allTypes))]
	if strings.TrimSpace(result) == "T" {
		free = typ
	}
	var kids []int
	for _, field := range strings.Fields(wanted) {
		if field == "T" {
			kids = append(kids, free)
		} else {
			kids = append(kids, typeNames[field])
		}
	}
	return kids
}

// typedRandom makes well-typed statements by chance. Its constants are such that
// the optimizer's lines often fit, and that errors come about.
type typedRandom struct {
	random  *rand.Rand
	written bool // only numbers that may be written
	lets    []int
}

var someNumbers = []int64{0, 0, 1, 1, 2, 3, 64, math.MaxInt64, -1, -2, math.MinInt64, math.MinInt64 + 1}

func (g *typedRandom) constant(typ int) *tree {
	switch typ {
	case impl.TyBool:
		return truth(g.random.Intn(2) == 0)
	case impl.TyInt:
		if g.written {
			return number(someNumbers[g.random.Intn(8)])
		}
		return number(someNumbers[g.random.Intn(len(someNumbers))])
	case impl.TyText:
		return quoted([]string{"", "a", "b", "app", "ann"}[g.random.Intn(5)])
	}
	return setOf(someSet(g.random)...)
}

func someSet(random *rand.Rand) []string {
	switch random.Intn(12) {
	case 0, 1, 2, 3:
		return nil
	case 4:
		return numberedNames("n", maxSet)
	case 5:
		return numberedNames("n", maxSet-1)
	case 6:
		return numberedNames("m", 1)
	}
	return randomSet(random, 3, 1)
}

func (g *typedRandom) leaf(typ int) *tree {
	var known []*tree
	for num, t := range attributeTypes {
		if t == typ {
			known = append(known, attr(int64(num)))
		}
	}
	for num, t := range g.lets {
		if t == typ {
			known = append(known, letAt(int64(num)), letAt(int64(num)))
		}
	}
	if len(known) == 0 || g.random.Intn(3) == 0 {
		return g.constant(typ)
	}
	return known[g.random.Intn(len(known))]
}

func (g *typedRandom) tree(typ, depth int) *tree {
	ops := opsOf(typ)
	if depth <= 1 || g.random.Intn(5) == 0 {
		return g.leaf(typ)
	}
	t := &tree{op: ops[g.random.Intn(len(ops))]}
	for _, kid := range kidTypes(g.random, t.op, typ) {
		t.kids = append(t.kids, g.tree(kid, depth-1))
	}
	return t
}

func (g *typedRandom) grant(depth int) *tree {
	if g.random.Intn(3) == 0 {
		return nil
	}
	return g.tree(impl.TySet, depth)
}

func (g *typedRandom) lines(most, depth int) []line {
	g.lets = nil
	var lines []line
	for range g.random.Intn(most) {
		if g.random.Intn(2) == 0 {
			typ := allTypes[g.random.Intn(len(allTypes))]
			lines = append(lines, let("v"+strconv.Itoa(len(g.lets)), g.tree(typ, g.random.Intn(depth)+1)))
			g.lets = append(g.lets, typ)
		} else {
			lines = append(lines, when(g.tree(impl.TyBool, g.random.Intn(depth)+1), g.grant(depth)))
		}
	}
	return append(lines, last(g.grant(depth)))
}

// someRequest gives attributes that are often alike, or at an edge.
func someRequest(random *rand.Rand) impl.Request {
	return impl.Request{
		Client: []string{"app", "ann", "a"}[random.Intn(3)],
		User:   []string{"app", "ann", "b"}[random.Intn(3)],
		Level:  someNumbers[random.Intn(len(someNumbers))],
		Now:    someNumbers[random.Intn(len(someNumbers))],
		Asked:  someSet(random),
		Agreed: someSet(random),
	}
}

func plainRequest() impl.Request {
	return impl.Request{
		Client: "app", User: "ann", Level: 2, Now: 100,
		Asked: []string{"a", "b"}, Agreed: []string{"b", "c"},
	}
}
