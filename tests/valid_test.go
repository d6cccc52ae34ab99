package tests

import (
	"fmt"
	"math"
	"math/rand"
	"slices"
	"strings"
	"testing"

	"loop.example/s01308/impl"
)

// goodPolicy has a node of each sort and statements of each kind:
//
//	let x = a < 7 and not "t" in {"r", "w"};
//	when x => grant if y then {} else b;
//	when true => deny;
//	else deny;
func goodPolicy() impl.Policy {
	return impl.Policy{
		Nodes: []impl.Node{
			0:  {Op: impl.OpName, Text: "a"},
			1:  {Op: impl.OpInt, Num: 7},
			2:  {Op: impl.OpLess, Kids: []int{0, 1}},
			3:  {Op: impl.OpText, Text: "t"},
			4:  {Op: impl.OpSet, Names: []string{"r", "w"}},
			5:  {Op: impl.OpIn, Kids: []int{3, 4}},
			6:  {Op: impl.OpNot, Kids: []int{5}},
			7:  {Op: impl.OpAnd, Kids: []int{2, 6}},
			8:  {Op: impl.OpName, Text: "x"},
			9:  {Op: impl.OpName, Text: "y"},
			10: {Op: impl.OpSet},
			11: {Op: impl.OpName, Text: "b"},
			12: {Op: impl.OpIf, Kids: []int{9, 10, 11}},
			13: {Op: impl.OpBool, Num: 1},
		},
		Stmts: []impl.Stmt{
			{Kind: impl.SLet, Name: "x", Cond: 7, Grant: -1},
			{Kind: impl.SWhen, Cond: 8, Grant: 12},
			{Kind: impl.SWhen, Cond: 13, Grant: -1},
			{Kind: impl.SElse, Cond: -1, Grant: -1},
		},
	}
}

// spoiling is one way to make a good policy wrong.
type spoiling struct {
	why string
	do  func(p *impl.Policy)
}

func nodeChange(why string, place int, do func(n *impl.Node)) spoiling {
	return spoiling{why, func(p *impl.Policy) { do(&p.Nodes[place]) }}
}

func stmtChange(why string, place int, do func(s *impl.Stmt)) spoiling {
	return spoiling{why, func(p *impl.Policy) { do(&p.Stmts[place]) }}
}

// notNames could be no TName.
var notNames = append([]string{
	"", "1", "1a", "_", "_a", "A", "aB", "a-b", "a.b", "a:b", "a b", " a", "a ", "a\n", "é", "a\xff", "a#", `"a"`,
	strings.Repeat("a", maxName+1),
}, words...)

func spoiltStatements() []spoiling {
	out := []spoiling{
		{"no statement", func(p *impl.Policy) { p.Stmts = nil }},
		{"no else", func(p *impl.Policy) { p.Stmts = p.Stmts[:3] }},
		{"else alone, nodes left over", func(p *impl.Policy) { p.Stmts = p.Stmts[3:] }},
		{"two elses", func(p *impl.Policy) { p.Stmts = append(p.Stmts, p.Stmts[3]) }},
		{"else ahead", func(p *impl.Policy) { p.Stmts = slices.Insert(p.Stmts, 0, p.Stmts[3]) }},
		{"else not last", func(p *impl.Policy) { p.Stmts[2], p.Stmts[3] = p.Stmts[3], p.Stmts[2] }},
		{"statements out of order", func(p *impl.Policy) { p.Stmts[0], p.Stmts[1] = p.Stmts[1], p.Stmts[0] }},
		{"a statement twice", func(p *impl.Policy) { p.Stmts = slices.Insert(p.Stmts, 0, p.Stmts[0]) }},
		{"a statement left out", func(p *impl.Policy) { p.Stmts = slices.Delete(p.Stmts, 2, 3) }},
		stmtChange("let with a grant", 0, func(s *impl.Stmt) { s.Grant = 7 }),
		stmtChange("let with grant 0", 0, func(s *impl.Stmt) { s.Grant = 0 }),
		stmtChange("let with grant -2", 0, func(s *impl.Stmt) { s.Grant = -2 }),
		stmtChange("let without Cond", 0, func(s *impl.Stmt) { s.Cond = -1 }),
		stmtChange("let with the Cond of a kid", 0, func(s *impl.Stmt) { s.Cond = 6 }),
		stmtChange("let as when", 0, func(s *impl.Stmt) { s.Kind = impl.SWhen }),
		stmtChange("when with a name", 1, func(s *impl.Stmt) { s.Name = "x" }),
		stmtChange("when without Cond", 1, func(s *impl.Stmt) { s.Cond = -1 }),
		stmtChange("when without its Grant", 1, func(s *impl.Stmt) { s.Grant = -1 }),
		stmtChange("when with Grant -2", 2, func(s *impl.Stmt) { s.Grant = -2 }),
		stmtChange("when with Grant and Cond the same", 2, func(s *impl.Stmt) { s.Grant = 13 }),
		stmtChange("when with Grant and Cond exchanged", 1, func(s *impl.Stmt) { s.Cond, s.Grant = s.Grant, s.Cond }),
		stmtChange("when with Grant behind all nodes", 2, func(s *impl.Stmt) { s.Grant = 14 }),
		stmtChange("when as let", 2, func(s *impl.Stmt) { s.Kind = impl.SLet }),
		stmtChange("else with a name", 3, func(s *impl.Stmt) { s.Name = "x" }),
		stmtChange("else with Cond", 3, func(s *impl.Stmt) { s.Cond = 13 }),
		stmtChange("else with Cond 0", 3, func(s *impl.Stmt) { s.Cond = 0 }),
		stmtChange("else with Cond -2", 3, func(s *impl.Stmt) { s.Cond = -2 }),
		stmtChange("else with a Grant that is used", 3, func(s *impl.Stmt) { s.Grant = 13 }),
		stmtChange("else with Grant out of range", 3, func(s *impl.Stmt) { s.Grant = 14 }),
		stmtChange("else with Grant -2", 3, func(s *impl.Stmt) { s.Grant = -2 }),
	}
	for _, kind := range []int{0, -1, 4, math.MaxInt, math.MinInt} {
		for i := range 4 {
			out = append(out, stmtChange("a statement of no kind", i, func(s *impl.Stmt) { s.Kind = kind }))
		}
	}
	for _, place := range []int{14, 15, -2, math.MaxInt, math.MinInt} {
		out = append(out, stmtChange("let with Cond out of range", 0, func(s *impl.Stmt) { s.Cond = place }))
		out = append(out, stmtChange("when with Cond out of range", 2, func(s *impl.Stmt) { s.Cond = place }))
		out = append(out, stmtChange("when with Grant out of range", 1, func(s *impl.Stmt) { s.Grant = place }))
	}
	for _, name := range notNames {
		out = append(out, stmtChange("let with the name "+name, 0, func(s *impl.Stmt) { s.Name = name }))
	}
	return out
}

func spoiltNodes() []spoiling {
	out := []spoiling{
		{"no nodes", func(p *impl.Policy) { p.Nodes = nil }},
		{"the last node missing", func(p *impl.Policy) { p.Nodes = p.Nodes[:13] }},
		{"one leaf more", func(p *impl.Policy) { p.Nodes = append(p.Nodes, impl.Node{Op: impl.OpSet}) }},
		{"one node more that uses another", func(p *impl.Policy) {
			p.Nodes = append(p.Nodes, impl.Node{Op: impl.OpNot, Kids: []int{13}})
		}},
		{"nodes exchanged", func(p *impl.Policy) { p.Nodes[6], p.Nodes[7] = p.Nodes[7], p.Nodes[6] }},
		nodeChange("a number below 0", 1, func(n *impl.Node) { n.Num = -1 }),
		nodeChange("the smallest number", 1, func(n *impl.Node) { n.Num = math.MinInt64 }),
		nodeChange("a truth of 2", 13, func(n *impl.Node) { n.Num = 2 }),
		nodeChange("a truth of -1", 13, func(n *impl.Node) { n.Num = -1 }),
		nodeChange("kids exchanged", 2, func(n *impl.Node) { n.Kids = []int{1, 0} }),
		nodeChange("a kid twice", 2, func(n *impl.Node) { n.Kids = []int{1, 1} }),
		nodeChange("the first kid twice", 2, func(n *impl.Node) { n.Kids = []int{0, 0} }),
		nodeChange("a kid too few", 2, func(n *impl.Node) { n.Kids = []int{1} }),
		nodeChange("a kid too many", 2, func(n *impl.Node) { n.Kids = []int{0, 0, 1} }),
		nodeChange("no kids", 2, func(n *impl.Node) { n.Kids = nil }),
		nodeChange("a kid of another tree", 12, func(n *impl.Node) { n.Kids = []int{8, 10, 11} }),
		nodeChange("a kid too many of an if", 12, func(n *impl.Node) { n.Kids = []int{8, 9, 10, 11} }),
		nodeChange("a kid too few of an if", 12, func(n *impl.Node) { n.Kids = []int{10, 11} }),
		nodeChange("a node that is its own kid", 6, func(n *impl.Node) { n.Kids = []int{6} }),
		nodeChange("a kid that stands behind", 6, func(n *impl.Node) { n.Kids = []int{7} }),
		nodeChange("a kid that is used already", 6, func(n *impl.Node) { n.Kids = []int{4} }),
		nodeChange("not of two", 6, func(n *impl.Node) { n.Kids = []int{2, 5} }),
		nodeChange("a kid of a leaf", 13, func(n *impl.Node) { n.Kids = []int{12} }),
		nodeChange("the leaf ahead as a kid", 1, func(n *impl.Node) { n.Kids = []int{0} }),
		nodeChange("a text that is too long", 3, func(n *impl.Node) { n.Text = strings.Repeat("a", maxName+1) }),
		nodeChange("a text with a capital letter", 3, func(n *impl.Node) { n.Text = "T" }),
		nodeChange("a text with a blank", 3, func(n *impl.Node) { n.Text = "a b" }),
		nodeChange("a text with a quote", 3, func(n *impl.Node) { n.Text = `"` }),
		nodeChange("a text with a number", 3, func(n *impl.Node) { n.Num = 1 }),
		nodeChange("a text with names", 3, func(n *impl.Node) { n.Names = []string{"r"} }),
		nodeChange("a number with a text", 1, func(n *impl.Node) { n.Text = "7" }),
		nodeChange("a number with names", 1, func(n *impl.Node) { n.Names = []string{"r"} }),
		nodeChange("a truth with a text", 13, func(n *impl.Node) { n.Text = "true" }),
		nodeChange("a truth with names", 13, func(n *impl.Node) { n.Names = []string{"r"} }),
		nodeChange("a name with a number", 0, func(n *impl.Node) { n.Num = 1 }),
		nodeChange("a name with names", 0, func(n *impl.Node) { n.Names = []string{"a"} }),
		nodeChange("a set with a number", 4, func(n *impl.Node) { n.Num = 1 }),
		nodeChange("a set with a text", 4, func(n *impl.Node) { n.Text = "r" }),
		nodeChange("an operation with a negative kid", 6, func(n *impl.Node) { n.Kids = []int{-1} }),
	}
	for _, place := range []int{2, 6, 12} {
		out = append(out,
			nodeChange("an operation with a number", place, func(n *impl.Node) { n.Num = 1 }),
			nodeChange("an operation with a text", place, func(n *impl.Node) { n.Text = "a" }),
			nodeChange("an operation with names", place, func(n *impl.Node) { n.Names = []string{"a"} }),
		)
	}
	for _, op := range []int{0, -1, impl.OpAttr, impl.OpLet, impl.OpIf + 1, math.MaxInt, math.MinInt} {
		for i := range goodPolicy().Nodes {
			out = append(out, nodeChange("a node of a wrong kind", i, func(n *impl.Node) { n.Op = op }))
		}
		out = append(out, nodeChange("a bare node of a wrong kind", 0, func(n *impl.Node) { *n = impl.Node{Op: op} }))
	}
	for _, kid := range []int{-1, 13, 14, math.MaxInt, math.MinInt} {
		out = append(out,
			nodeChange("a first kid out of range", 2, func(n *impl.Node) { n.Kids = []int{kid, 1} }),
			nodeChange("a last kid out of range", 2, func(n *impl.Node) { n.Kids = []int{0, kid} }),
			nodeChange("the middle kid out of range", 12, func(n *impl.Node) { n.Kids[1] = kid }))
	}
	for _, name := range notNames {
		out = append(out, nodeChange("the name "+name, 8, func(n *impl.Node) { n.Text = name }))
	}
	for why, names := range wrongSets() {
		out = append(out, nodeChange("a set: "+why, 4, func(n *impl.Node) { n.Names = names }))
	}
	return out
}

// loneNodes are policies whose only statement names no node, so that nothing but
// the nodes themselves can make them wrong.
func loneNodes() map[string]impl.Policy {
	deny := []impl.Stmt{{Kind: impl.SElse, Cond: -1, Grant: -1}}
	return map[string]impl.Policy{
		"a leaf that no statement uses":       {Stmts: deny, Nodes: []impl.Node{{Op: impl.OpBool}}},
		"a node without its kid":              {Stmts: deny, Nodes: []impl.Node{{Op: impl.OpNeg, Kids: []int{5}}}},
		"a node that is its own kid, alone":   {Stmts: deny, Nodes: []impl.Node{{Op: impl.OpNot, Kids: []int{0}}}},
		"a node with a negative kid, alone":   {Stmts: deny, Nodes: []impl.Node{{Op: impl.OpNot, Kids: []int{-1}}}},
		"nodes that are each other's kids":    {Stmts: deny, Nodes: []impl.Node{{Op: impl.OpNot, Kids: []int{1}}, {Op: impl.OpNot, Kids: []int{0}}}},
		"a node ahead of its kid, unused":     {Stmts: deny, Nodes: []impl.Node{{Op: impl.OpSize, Kids: []int{1}}, {Op: impl.OpSet}}},
		"a whole tree that no statement uses": {Stmts: deny, Nodes: flatten([]line{last(node(impl.OpNot, named("a")))}).Nodes},
		"a deep tree that no statement uses":  {Stmts: deny, Nodes: flatten([]line{last(deepTree(maxDepth + 1))}).Nodes},
	}
}

func deepTree(depth int) *tree {
	t := named("a")
	for range depth - 1 {
		t = node(impl.OpNot, t)
	}
	return t
}

// widePolicy has the number of statements, each but the last with a tree of the
// number of nodes, which is odd.
func widePolicy(stmts, nodes int) impl.Policy {
	t := named("a")
	for range nodes / 2 {
		t = node(impl.OpAdd, t, named("a"))
	}
	var lines []line
	for range stmts - 1 {
		lines = append(lines, let("a", t))
	}
	return flatten(append(lines, last(nil)))
}

func wrongPolicies() map[string]impl.Policy {
	wrong := loneNodes()
	wrong["nothing"] = impl.Policy{}
	wrong["too many statements"] = widePolicy(maxStmts+1, 1)
	wrong["far too many statements"] = widePolicy(20*maxStmts, 1)
	wrong["too many statements and nodes"] = widePolicy(maxNodes/5+1, 5)
	wrong["too many nodes"] = flatten([]line{let("a", wideTree(maxNodes)), last(named("a"))})
	for name, chain := range map[string]*tree{
		"too deep":         deepTree(maxDepth + 1),
		"far too deep":     deepTree(3000),
		"too deep, nested": node(impl.OpEq, named("a"), deepTree(maxDepth)),
		"too deep on left": node(impl.OpEq, deepTree(maxDepth), named("a")),
	} {
		wrong[name+", let"] = flatten([]line{let("a", chain), last(nil)})
		wrong[name+", when"] = flatten([]line{when(chain, nil), last(nil)})
		wrong[name+", grant"] = flatten([]line{when(named("a"), chain), last(nil)})
		wrong[name+", else"] = flatten([]line{last(chain)})
	}
	for i, s := range append(spoiltStatements(), spoiltNodes()...) {
		p := goodPolicy()
		s.do(&p)
		wrong[fmt.Sprintf("%s (spoiling %d)", s.why, i)] = p
	}
	return wrong
}

// wideTree is flat: its n nodes stand in as few levels as may be.
func wideTree(n int) *tree {
	switch {
	case n == 1:
		return named("a")
	case n%2 == 0:
		return node(impl.OpNot, wideTree(n-1))
	}
	left := (n - 1) / 2
	return node(impl.OpOr, wideTree(left), wideTree(n-1-left))
}

func TestValidPolicyTakes(t *testing.T) {
	good := map[string]impl.Policy{
		"each sort":       goodPolicy(),
		"else alone":      flatten([]line{last(nil)}),
		"most statements": widePolicy(maxStmts, 1),
		"most nodes":      flatten([]line{let("a", wideTree(maxNodes-1)), last(named("a"))}),
		"all in one tree": flatten([]line{last(wideTree(maxNodes))}),
		"deepest": flatten([]line{
			let("a", deepTree(maxDepth)), when(deepTree(maxDepth), deepTree(maxDepth)), last(deepTree(maxDepth)),
		}),
		"unknown names":     flatten([]line{when(named("nobody"), named("nothing")), last(nil)}),
		"wrong types":       flatten([]line{when(node(impl.OpAdd, setOf(), number(1)), number(2)), last(number(3))}),
		"lets of one name":  flatten([]line{let("a", number(1)), let("a", number(1)), let("client", number(1)), last(nil)}),
		"greatest number":   flatten([]line{last(number(math.MaxInt64))}),
		"empty text":        flatten([]line{last(&tree{op: impl.OpText})}),
		"longest text":      flatten([]line{last(&tree{op: impl.OpText, text: strings.Repeat(":", maxName)})}),
		"longest name":      flatten([]line{let(strings.Repeat("z", maxName), named(strings.Repeat("q", maxName))), last(nil)}),
		"name like a word":  flatten([]line{let("lets", named("in_")), last(named("iff"))}),
		"widest set":        flatten([]line{last(setOf(numberedNames("n", maxSet)...))}),
		"no lists, not nil": {Nodes: []impl.Node{}, Stmts: []impl.Stmt{{Kind: impl.SElse, Cond: -1, Grant: -1}}},
		"empty lists in nodes": {
			Nodes: []impl.Node{{Op: impl.OpInt, Names: []string{}, Kids: []int{}}},
			Stmts: []impl.Stmt{{Kind: impl.SElse, Cond: -1, Grant: 0}},
		},
	}
	for why, p := range good {
		if !impl.ValidPolicy(p) {
			t.Errorf("%s: not valid", why)
		}
		if impl.Print(p) == "" {
			t.Errorf("%s: no text", why)
		}
		checkReadBack(t, p)
	}
}

func TestValidPolicyRefuses(t *testing.T) {
	for why, p := range wrongPolicies() {
		if impl.ValidPolicy(p) {
			t.Errorf("%s: valid", why)
		}
	}
}

// isValid says once more what a valid policy is: the trees are gone through from
// the statements down, and numbering them anew must give the policy itself.
func isValid(p impl.Policy) bool {
	if len(p.Nodes) > maxNodes || len(p.Stmts) < 1 || len(p.Stmts) > maxStmts {
		return false
	}
	var lines []line
	for i, s := range p.Stmts {
		if (s.Kind == impl.SElse) != (i == len(p.Stmts)-1) {
			return false
		}
		l := line{kind: s.Kind, name: s.Name}
		budget := maxNodes
		if s.Kind != impl.SElse {
			l.cond = unflatten(p, s.Cond, maxDepth, &budget)
		}
		if s.Grant != -1 {
			l.grant = unflatten(p, s.Grant, maxDepth, &budget)
		}
		switch {
		case s.Kind < impl.SLet || s.Kind > impl.SElse, s.Kind != impl.SElse && l.cond == nil, s.Grant != -1 && l.grant == nil:
			return false
		case s.Kind == impl.SLet && (s.Grant != -1 || !isTName(s.Name)), s.Kind != impl.SLet && s.Name != "":
			return false
		}
		lines = append(lines, l)
	}
	return samePolicy(flatten(lines), p)
}

// unflatten gives no tree where none of at most so many levels and nodes stands.
func unflatten(p impl.Policy, place, levels int, budget *int) *tree {
	*budget--
	if place < 0 || place >= len(p.Nodes) || levels == 0 || *budget < 0 {
		return nil
	}
	n := p.Nodes[place]
	t := &tree{op: n.Op, num: n.Num, text: n.Text, names: n.Names}
	if !isLeafOrForm(n) {
		return nil
	}
	for _, kid := range n.Kids {
		k := unflatten(p, kid, levels-1, budget)
		if k == nil {
			return nil
		}
		t.kids = append(t.kids, k)
	}
	return t
}

func isLeafOrForm(n impl.Node) bool {
	if _, ok := forms[n.Op]; ok {
		return len(n.Kids) == kidsOf(n.Op) && n.Num == 0 && n.Text == "" && len(n.Names) == 0
	}
	switch {
	case len(n.Kids) > 0:
		return false
	case n.Op == impl.OpInt:
		return n.Num >= 0 && n.Text == "" && len(n.Names) == 0
	case n.Op == impl.OpBool:
		return n.Num*n.Num == n.Num && n.Text == "" && len(n.Names) == 0
	case n.Op == impl.OpText:
		return (n.Text == "" || isName(n.Text)) && n.Num == 0 && len(n.Names) == 0
	case n.Op == impl.OpName:
		return isTName(n.Text) && n.Num == 0 && len(n.Names) == 0
	}
	return n.Op == impl.OpSet && isScopeSet(n.Names) && n.Num == 0 && n.Text == ""
}

func isTName(s string) bool {
	tokens, fault := scanned(s)
	return fault == (impl.Fault{}) && slices.Equal(tokens, []impl.Token{{Kind: impl.TName, Text: s}})
}

// Policies of few nodes, spoilt at random: a small change makes some of them
// valid in another way, so both answers come about.
func TestValidPolicyOfManyPolicies(t *testing.T) {
	random := rand.New(rand.NewSource(59))
	counts := map[bool]int{}
	for range 60000 {
		p := flatten(randomLines(random, 3, 3))
		for range random.Intn(3) {
			spoilAtRandom(random, &p)
		}
		want := isValid(p)
		counts[want]++
		if got := impl.ValidPolicy(p); got != want {
			t.Fatalf("ValidPolicy(%+v) = %v", p, got)
		}
		if text := impl.Print(p); (text != "") != want {
			t.Fatalf("Print(%+v) = %q", p, text)
		}
	}
	if counts[true] < 1000 || counts[false] < 1000 {
		t.Errorf("valid and not valid: %v", counts)
	}
}

func spoilAtRandom(random *rand.Rand, p *impl.Policy) {
	if random.Intn(3) == 0 || len(p.Nodes) == 0 {
		s := &p.Stmts[random.Intn(len(p.Stmts))]
		switch random.Intn(4) {
		case 0:
			s.Kind = random.Intn(5)
		case 1:
			s.Name = []string{"", "a", "let"}[random.Intn(3)]
		case 2:
			s.Cond += random.Intn(3) - 1
		case 3:
			s.Grant += random.Intn(3) - 1
		}
		return
	}
	i := random.Intn(len(p.Nodes))
	n := &p.Nodes[i]
	switch random.Intn(7) {
	case 0:
		n.Op = random.Intn(30)
	case 1:
		n.Num += int64(random.Intn(3) - 1)
	case 2:
		n.Text = []string{"", "a", "true", "A"}[random.Intn(4)]
	case 3:
		n.Names = [][]string{nil, {"a"}, {"b", "a"}}[random.Intn(3)]
	case 4:
		n.Kids = append(slices.Clone(n.Kids), random.Intn(len(p.Nodes)))
	case 5:
		if len(n.Kids) > 0 {
			n.Kids[random.Intn(len(n.Kids))] += random.Intn(3) - 1
		}
	case 6:
		p.Nodes = slices.Delete(p.Nodes, i, i+1)
	}
}
