package tests

import (
	"math/rand"
	"slices"
	"strconv"
	"strings"

	"loop.example/s01308/impl"
)

// More limits that are said here once more.
const (
	maxDepth = 64
	maxNodes = 4000
	maxStmts = 600
)

// tree is an expression as the tests hold it: a node that owns its kids.
type tree struct {
	op    int
	num   int64
	text  string
	names []string
	kids  []*tree
}

// line is a statement as the tests hold it; no tree for what is not there.
type line struct {
	kind        int
	name        string
	cond, grant *tree
}

func number(n int64) *tree { return &tree{op: impl.OpInt, num: n} }

func named(s string) *tree { return &tree{op: impl.OpName, text: s} }

func setOf(names ...string) *tree { return &tree{op: impl.OpSet, names: names} }

func node(op int, kids ...*tree) *tree { return &tree{op: op, kids: kids} }

func let(name string, cond *tree) line { return line{kind: impl.SLet, name: name, cond: cond} }

func when(cond, grant *tree) line { return line{kind: impl.SWhen, cond: cond, grant: grant} }

func last(grant *tree) line { return line{kind: impl.SElse, grant: grant} }

// flatten writes statements as a policy, from what 3.3 says.
func flatten(lines []line) impl.Policy {
	var p impl.Policy
	for _, l := range lines {
		s := impl.Stmt{Kind: l.kind, Name: l.name, Cond: -1, Grant: -1}
		if l.cond != nil {
			s.Cond = flattenTree(&p, l.cond)
		}
		if l.grant != nil {
			s.Grant = flattenTree(&p, l.grant)
		}
		p.Stmts = append(p.Stmts, s)
	}
	return p
}

func flattenTree(p *impl.Policy, t *tree) int {
	n := impl.Node{Op: t.op, Num: t.num, Text: t.text, Names: slices.Clone(t.names)}
	for _, kid := range t.kids {
		n.Kids = append(n.Kids, flattenTree(p, kid))
	}
	p.Nodes = append(p.Nodes, n)
	return len(p.Nodes) - 1
}

func samePolicy(a, b impl.Policy) bool {
	return slices.Equal(a.Stmts, b.Stmts) && slices.EqualFunc(a.Nodes, b.Nodes, sameNode)
}

func sameNode(a, b impl.Node) bool {
	return a.Op == b.Op && a.Num == b.Num && a.Text == b.Text &&
		slices.Equal(a.Names, b.Names) && slices.Equal(a.Kids, b.Kids)
}

func copyPolicy(p impl.Policy) impl.Policy {
	out := impl.Policy{Nodes: slices.Clone(p.Nodes), Stmts: slices.Clone(p.Stmts)}
	for i := range out.Nodes {
		out.Nodes[i].Names = slices.Clone(out.Nodes[i].Names)
		out.Nodes[i].Kids = slices.Clone(out.Nodes[i].Kids)
	}
	return out
}

func isEmptyPolicy(p impl.Policy) bool { return len(p.Nodes) == 0 && len(p.Stmts) == 0 }

// forms says how 3.5 writes each operator: a letter for each kid, with the least
// level that it needs to stand without parentheses.
var forms = map[int]struct {
	level int
	form  string
}{
	impl.OpIf:     {0, "if A/0 then B/0 else C/0"},
	impl.OpOr:     {1, "A/1 or B/2"},
	impl.OpAnd:    {2, "A/2 and B/3"},
	impl.OpNot:    {3, "not A/3"},
	impl.OpEq:     {4, "A/5 == B/5"},
	impl.OpNe:     {4, "A/5 != B/5"},
	impl.OpLess:   {4, "A/5 < B/5"},
	impl.OpMost:   {4, "A/5 <= B/5"},
	impl.OpIn:     {4, "A/5 in B/5"},
	impl.OpWithin: {4, "A/5 within B/5"},
	impl.OpAdd:    {5, "A/5 + B/6"},
	impl.OpSub:    {5, "A/5 - B/6"},
	impl.OpUnion:  {5, "A/5 | B/6"},
	impl.OpMinus:  {5, `A/5 \ B/6`},
	impl.OpMul:    {6, "A/6 * B/7"},
	impl.OpDiv:    {6, "A/6 / B/7"},
	impl.OpMod:    {6, "A/6 % B/7"},
	impl.OpMeet:   {6, "A/6 & B/7"},
	impl.OpNeg:    {7, "-A/7"},
	impl.OpSize:   {8, "size(A/0)"},
}

// operators are the operators of forms in the order of their numbers.
func operators() []int {
	var ops []int
	for op := range forms {
		ops = append(ops, op)
	}
	slices.Sort(ops)
	return ops
}

// kidsOf counts the slashes of the form, of which each kid has one.
func kidsOf(op int) int {
	return strings.Count(strings.Replace(forms[op].form, " / ", "", 1), "/")
}

func levelOf(t *tree) int {
	if f, ok := forms[t.op]; ok {
		return f.level
	}
	return 8
}

// printed writes a tree by its form.
func printed(t *tree) string {
	switch t.op {
	case impl.OpInt:
		return strconv.FormatInt(t.num, 10)
	case impl.OpText:
		return `"` + t.text + `"`
	case impl.OpBool:
		return []string{"false", "true"}[t.num]
	case impl.OpName:
		return t.text
	case impl.OpSet:
		if len(t.names) == 0 {
			return "{}"
		}
		return `{"` + strings.Join(t.names, `", "`) + `"}`
	}
	var out strings.Builder
	form := forms[t.op].form
	for i := 0; i < len(form); i++ {
		if form[i] < 'A' || form[i] > 'C' {
			out.WriteByte(form[i])
			continue
		}
		kid := t.kids[form[i]-'A']
		least := int(form[i+2] - '0')
		i += 2
		if levelOf(kid) < least {
			out.WriteString("(" + printed(kid) + ")")
		} else {
			out.WriteString(printed(kid))
		}
	}
	return out.String()
}

func printedLines(lines []line) string {
	var out strings.Builder
	for _, l := range lines {
		switch l.kind {
		case impl.SLet:
			out.WriteString("let " + l.name + " = " + printed(l.cond))
		case impl.SWhen:
			out.WriteString("when " + printed(l.cond) + " => " + printedDecision(l.grant))
		case impl.SElse:
			out.WriteString("else " + printedDecision(l.grant))
		}
		out.WriteString(";\n")
	}
	return out.String()
}

func printedDecision(grant *tree) string {
	if grant == nil {
		return "deny"
	}
	return "grant " + printed(grant)
}

// loose writes policies with parentheses around every operation and with blanks
// and comments as chance has them, and keeps the offsets of the nodes' tokens.
type loose struct {
	random *rand.Rand
	text   strings.Builder
	at     []int
}

func (l *loose) put(token string) int {
	for l.random.Intn(3) == 0 {
		l.text.WriteString([]string{" ", "\n", "\t", "#\n", "# \"A>!\n", "  "}[l.random.Intn(6)])
	}
	at := l.text.Len()
	l.text.WriteString(token)
	// Two words, or a sign and what would make it longer, must not touch.
	l.text.WriteString([]string{" ", "\n", "\t"}[l.random.Intn(3)])
	return at
}

// tree writes the tree and then keeps its token's offset, as post-order wants it.
func (l *loose) tree(t *tree) {
	wrapped := l.random.Intn(3) == 0 || len(t.kids) > 0
	if wrapped {
		l.put("(")
	}
	at := l.bare(t)
	l.at = append(l.at, at)
	if wrapped {
		l.put(")")
	}
}

func (l *loose) bare(t *tree) int {
	switch {
	case t.op == impl.OpSet:
		return l.set(t.names)
	case t.op == impl.OpIf:
		at := l.put("if")
		l.tree(t.kids[0])
		l.put("then")
		l.tree(t.kids[1])
		l.put("else")
		l.tree(t.kids[2])
		return at
	case t.op == impl.OpSize:
		at := l.put("size")
		l.put("(")
		l.tree(t.kids[0])
		l.put(")")
		return at
	case len(t.kids) == 1:
		at := l.put(map[int]string{impl.OpNeg: "-", impl.OpNot: "not"}[t.op])
		l.tree(t.kids[0])
		return at
	case len(t.kids) == 2:
		l.tree(t.kids[0])
		at := l.put(strings.Fields(forms[t.op].form)[1])
		l.tree(t.kids[1])
		return at
	}
	return l.put(printed(t))
}

// set writes the names in any order, some of them more than once.
func (l *loose) set(names []string) int {
	many := slices.Clone(names)
	for i := range names {
		for l.random.Intn(4) == 0 {
			many = append(many, names[i])
		}
	}
	l.random.Shuffle(len(many), func(i, j int) { many[i], many[j] = many[j], many[i] })
	at := l.put("{")
	for i, name := range many {
		if i > 0 {
			l.put(",")
		}
		l.put(`"` + name + `"`)
	}
	l.put("}")
	return at
}

func (l *loose) line(s line) {
	switch s.kind {
	case impl.SLet:
		l.put("let")
		l.put(s.name)
		l.put("=")
		l.tree(s.cond)
	case impl.SWhen:
		l.put("when")
		l.tree(s.cond)
		l.put("=>")
		l.decision(s.grant)
	case impl.SElse:
		l.put("else")
		l.decision(s.grant)
	}
	l.put(";")
}

func (l *loose) decision(grant *tree) {
	if grant == nil {
		l.put("deny")
		return
	}
	l.put("grant")
	l.tree(grant)
}

// identifiers could all be a TName; some begin like a word.
var identifiers = []string{
	"a", "z", "x1", "a_", "a_b", "client", "level", "asked", "letter", "iff", "in_", "nota", "trues", "i", "orr",
	"z9_9", "l" + strings.Repeat("0", maxName-1),
}

func randomLeaf(random *rand.Rand) *tree {
	switch random.Intn(5) {
	case 0:
		return number([]int64{0, 1, 7, 10, 1<<63 - 1, random.Int63()}[random.Intn(6)])
	case 1:
		t := &tree{op: impl.OpText}
		if random.Intn(4) > 0 {
			t.text = randomName(random, maxName)
		}
		return t
	case 2:
		return &tree{op: impl.OpBool, num: int64(random.Intn(2))}
	case 3:
		return setOf(randomSet(random, 4, 3)...)
	}
	return named(identifiers[random.Intn(len(identifiers))])
}

func randomTree(random *rand.Rand, depth int) *tree {
	ops := operators()
	if depth <= 1 || random.Intn(4) == 0 {
		return randomLeaf(random)
	}
	t := &tree{op: ops[random.Intn(len(ops))]}
	for range kidsOf(t.op) {
		t.kids = append(t.kids, randomTree(random, depth-1))
	}
	return t
}

func randomLines(random *rand.Rand, most, depth int) []line {
	var lines []line
	grant := func() *tree {
		if random.Intn(2) == 0 {
			return nil
		}
		return randomTree(random, depth)
	}
	for range random.Intn(most) {
		if random.Intn(2) == 0 {
			lines = append(lines, let(identifiers[random.Intn(len(identifiers))], randomTree(random, depth)))
		} else {
			lines = append(lines, when(randomTree(random, depth), grant()))
		}
	}
	return append(lines, last(grant()))
}
