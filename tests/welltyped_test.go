package tests

import (
	"fmt"
	"math"
	"math/rand"
	"slices"
	"strconv"
	"strings"
	"testing"

	"loop.example/s01308/impl"
)

// goodTyped has a node of each sort and statements of each kind:
//
//	let x = level < -7 and not "t" in {"r", "w"};
//	let y = if x then {} else asked;
//	when x => grant y & agreed;
//	when true => deny;
//	else deny;
func goodTyped() impl.Typed {
	return impl.Typed{
		Nodes: []impl.Node{
			0:  {Op: impl.OpAttr, Num: 2},
			1:  {Op: impl.OpInt, Num: -7},
			2:  {Op: impl.OpLess, Kids: []int{0, 1}},
			3:  {Op: impl.OpText, Text: "t"},
			4:  {Op: impl.OpSet, Names: []string{"r", "w"}},
			5:  {Op: impl.OpIn, Kids: []int{3, 4}},
			6:  {Op: impl.OpNot, Kids: []int{5}},
			7:  {Op: impl.OpAnd, Kids: []int{2, 6}},
			8:  {Op: impl.OpLet},
			9:  {Op: impl.OpSet},
			10: {Op: impl.OpAttr, Num: 4},
			11: {Op: impl.OpIf, Kids: []int{8, 9, 10}},
			12: {Op: impl.OpLet},
			13: {Op: impl.OpLet, Num: 1},
			14: {Op: impl.OpAttr, Num: 5},
			15: {Op: impl.OpMeet, Kids: []int{13, 14}},
			16: {Op: impl.OpBool, Num: 1},
		},
		Stmts: []impl.Stmt{
			{Kind: impl.SLet, Name: "x", Cond: 7, Grant: -1},
			{Kind: impl.SLet, Name: "y", Cond: 11, Grant: -1},
			{Kind: impl.SWhen, Cond: 12, Grant: 15},
			{Kind: impl.SWhen, Cond: 16, Grant: -1},
			{Kind: impl.SElse, Cond: -1, Grant: -1},
		},
		Types: []int{
			impl.TyInt, impl.TyInt, impl.TyBool, impl.TyText, impl.TySet, impl.TyBool, impl.TyBool, impl.TyBool,
			impl.TyBool, impl.TySet, impl.TySet, impl.TySet, impl.TyBool, impl.TySet, impl.TySet, impl.TySet, impl.TyBool,
		},
	}
}

// spoilTyped is one way to make a well-typed policy wrong.
type spoilTyped struct {
	why string
	do  func(t *impl.Typed)
}

func typedNode(why string, place int, do func(n *impl.Node)) spoilTyped {
	return spoilTyped{why, func(t *impl.Typed) { do(&t.Nodes[place]) }}
}

func typedStmt(why string, place int, do func(s *impl.Stmt)) spoilTyped {
	return spoilTyped{why, func(t *impl.Typed) { do(&t.Stmts[place]) }}
}

func spoiltNames() []spoilTyped {
	out := []spoilTyped{
		typedNode("a name that is left", 0, func(n *impl.Node) { *n = impl.Node{Op: impl.OpName, Text: "level"} }),
		typedNode("a let's name that is left", 12, func(n *impl.Node) { *n = impl.Node{Op: impl.OpName, Text: "x"} }),
		typedNode("an attribute with its name", 0, func(n *impl.Node) { n.Text = "level" }),
		typedNode("a let with its name", 12, func(n *impl.Node) { n.Text = "x" }),
		typedNode("an attribute with names", 10, func(n *impl.Node) { n.Names = []string{"a"} }),
		typedNode("a let with names", 13, func(n *impl.Node) { n.Names = []string{"a"} }),
		typedNode("an attribute with a kid", 10, func(n *impl.Node) { n.Kids = []int{9} }),
		typedNode("a let with a kid", 13, func(n *impl.Node) { n.Kids = []int{12} }),
		typedNode("another attribute's type", 0, func(n *impl.Node) { n.Num = 4 }),
		typedNode("another let's type", 12, func(n *impl.Node) { n.Num = 1 }),
		typedNode("a let in its own Cond", 8, func(n *impl.Node) { n.Num = 1 }),
		typedNode("a let ahead of all", 0, func(n *impl.Node) { *n = impl.Node{Op: impl.OpLet} }),
		typedStmt("a let of an earlier name", 1, func(s *impl.Stmt) { s.Name = "x" }),
		typedNode("a number with a text", 1, func(n *impl.Node) { n.Text = "7" }),
		typedNode("a number with names", 1, func(n *impl.Node) { n.Names = []string{"r"} }),
		typedNode("a truth of 2", 16, func(n *impl.Node) { n.Num = 2 }),
		typedNode("a truth of -1", 16, func(n *impl.Node) { n.Num = -1 }),
		typedNode("a text that is too long", 3, func(n *impl.Node) { n.Text = strings.Repeat("a", maxName+1) }),
		typedNode("a text with a capital letter", 3, func(n *impl.Node) { n.Text = "T" }),
	}
	for _, num := range []int64{-1, 6, 7, 1 << 32, math.MaxInt64, math.MinInt64} {
		out = append(out,
			typedNode("no such attribute", 0, func(n *impl.Node) { n.Num = num }),
			typedNode("no such attribute of a set", 10, func(n *impl.Node) { n.Num = num }),
			typedNode("no such let", 12, func(n *impl.Node) { n.Num = num }),
			typedNode("no such let in a let", 8, func(n *impl.Node) { n.Num = num }))
	}
	for _, num := range []int64{1, 2} {
		out = append(out, typedNode("a let that is not known yet", 8, func(n *impl.Node) { n.Num = num }))
	}
	for _, name := range append(slices.Clone(attributeNames), notNames...) {
		out = append(out, typedStmt("a let of the name "+name, 1, func(s *impl.Stmt) { s.Name = name }))
	}
	for why, names := range wrongSets() {
		out = append(out, typedNode("a set: "+why, 4, func(n *impl.Node) { n.Names = names }))
	}
	return out
}

func spoiltTypes() []spoilTyped {
	out := []spoilTyped{
		{"no types", func(t *impl.Typed) { t.Types = nil }},
		{"a type too few", func(t *impl.Typed) { t.Types = t.Types[:len(t.Types)-1] }},
		{"the first type missing", func(t *impl.Typed) { t.Types = t.Types[1:] }},
		{"a type too many", func(t *impl.Typed) { t.Types = append(t.Types, impl.TyBool) }},
		{"a type 0 too many", func(t *impl.Typed) { t.Types = append(t.Types, 0) }},
		{"no nodes", func(t *impl.Typed) { t.Nodes = nil }},
		{"only types", func(t *impl.Typed) { t.Nodes, t.Stmts = nil, nil }},
		{"a number as condition", func(t *impl.Typed) {
			t.Nodes[16], t.Types[16] = impl.Node{Op: impl.OpInt, Num: 1}, impl.TyInt
		}},
		{"a set as condition", func(t *impl.Typed) { t.Nodes[12].Num, t.Types[12] = 1, impl.TySet }},
		{"a number as a kid of and", func(t *impl.Typed) {
			t.Nodes[6], t.Types[6] = impl.Node{Op: impl.OpSize, Kids: []int{5}}, impl.TyInt
		}},
		{"a text less than a number", func(t *impl.Typed) { t.Nodes[0].Num, t.Types[0] = 0, impl.TyText }},
		{"a number in a set", func(t *impl.Typed) {
			t.Nodes[3], t.Types[3] = impl.Node{Op: impl.OpInt}, impl.TyInt
		}},
		{"a choice of two types", func(t *impl.Typed) { t.Nodes[10].Num, t.Types[10] = 2, impl.TyInt }},
		{"a choice by a set", func(t *impl.Typed) {
			t.Nodes[8], t.Types[8] = impl.Node{Op: impl.OpAttr, Num: 4}, impl.TySet
		}},
		{"a truth as grant", func(t *impl.Typed) {
			t.Nodes[15], t.Types[15] = impl.Node{Op: impl.OpWithin, Kids: []int{13, 14}}, impl.TyBool
		}},
		{"a set compared where a number is wanted", func(t *impl.Typed) { t.Nodes[15].Op = impl.OpAdd }},
	}
	good := goodTyped()
	for place, typ := range good.Types {
		for _, other := range []int{impl.TyBool, impl.TyInt, impl.TyText, impl.TySet, 0, 5, -1, math.MaxInt, math.MinInt} {
			if other != typ {
				why := "node " + strconv.Itoa(place) + " of type " + strconv.Itoa(other)
				out = append(out, spoilTyped{why, func(t *impl.Typed) { t.Types[place] = other }})
			}
		}
	}
	return out
}

// wrongTyped are not well-typed, each in one way.
func wrongTyped() map[string]impl.Typed {
	wrong := map[string]impl.Typed{
		"nothing":   {},
		"no nodes":  {Stmts: []impl.Stmt{{Kind: impl.SElse, Cond: -1, Grant: -1}}, Types: []int{impl.TyBool}},
		"too deep":  typedLines([]line{when(deepOf(maxDepth+1, truth(true)), nil), last(nil)}),
		"too wide":  typedLines([]line{when(wideOf(maxNodes+1, truth(true)), nil), last(nil)}),
		"too many":  typedLines(manyLets(maxStmts + 1)),
		"far wider": typedLines([]line{when(wideOf(10*maxNodes, truth(true)), nil), last(nil)}),
	}
	for i, s := range append(spoiltNames(), spoiltTypes()...) {
		t := goodTyped()
		s.do(&t)
		wrong[fmt.Sprintf("%s (spoiling %d)", s.why, i)] = t
	}
	// What is no valid policy is not well-typed either, whatever its types.
	for why, p := range wrongPolicies() {
		types := make([]int, len(p.Nodes))
		for i := range types {
			types[i] = impl.TyBool
		}
		wrong["no policy: "+why] = impl.Typed{Nodes: p.Nodes, Stmts: p.Stmts, Types: types}
	}
	for i, s := range append(spoiltStatements(), spoiltNodes()...) {
		// These are wrong as they are written, and right as they are typed.
		if slices.Contains([]string{"a number below 0", "the smallest number", "a name with a number"}, s.why) {
			continue
		}
		p := goodPolicy()
		s.do(&p)
		wrong[fmt.Sprintf("typed as far as may be: %s (spoiling %d)", s.why, i)] = asTyped(p)
	}
	return wrong
}

// asTyped makes a Typed of what goodPolicy was spoilt to: a is the level, b is what
// was agreed, y is the let x, and each node gets the type that it has by its rows.
func asTyped(p impl.Policy) impl.Typed {
	t := impl.Typed{Nodes: copyPolicy(p).Nodes, Stmts: p.Stmts}
	for i, n := range t.Nodes {
		typ := 0
		switch {
		case n.Op == impl.OpName && n.Text == "a":
			t.Nodes[i].Op, t.Nodes[i].Text, t.Nodes[i].Num = impl.OpAttr, "", n.Num+2
			typ = impl.TyInt
		case n.Op == impl.OpName && n.Text == "b":
			t.Nodes[i].Op, t.Nodes[i].Text, t.Nodes[i].Num = impl.OpAttr, "", n.Num+5
			typ = impl.TySet
		case n.Op == impl.OpName && (n.Text == "x" || n.Text == "y"):
			t.Nodes[i].Op, t.Nodes[i].Text = impl.OpLet, ""
			typ = impl.TyBool
		default:
			var kids []int
			for _, kid := range n.Kids {
				if kid >= 0 && kid < i {
					kids = append(kids, t.Types[kid])
				}
			}
			typ = rowType(n.Op, kids)
		}
		t.Types = append(t.Types, typ)
	}
	return t
}

// deepOf and wideOf are deepTree and wideTree on another leaf.
func deepOf(depth int, leaf *tree) *tree {
	t := leaf
	for range depth - 1 {
		t = node(impl.OpNot, t)
	}
	return t
}

func wideOf(n int, leaf *tree) *tree {
	switch {
	case n == 1:
		return leaf
	case n%2 == 0:
		return node(impl.OpNot, wideOf(n-1, leaf))
	}
	left := (n - 1) / 2
	return node(impl.OpOr, wideOf(left, leaf), wideOf(n-1-left, leaf))
}

// manyLets has so many statements, of which each let uses the one ahead of it.
func manyLets(stmts int) []line {
	lines := []line{let("v0", attr(2))}
	for i := range stmts - 2 {
		lines = append(lines, let("v"+strconv.Itoa(i+1), letAt(int64(i))))
	}
	return append(lines, last(nil))
}

func TestWellTypedTakes(t *testing.T) {
	base := asTyped(goodPolicy())
	good := map[string]impl.Typed{
		"each sort":                           goodTyped(),
		"as it was read":                      base,
		"else alone":                          typedLines([]line{last(nil)}),
		"most statements":                     typedLines(manyLets(maxStmts)),
		"most nodes":                          typedLines([]line{when(wideOf(maxNodes, truth(true)), nil), last(nil)}),
		"deepest":                             typedLines([]line{when(deepOf(maxDepth, truth(true)), nil), last(nil)}),
		"least number":                        typedLines([]line{let("a", number(math.MinInt64)), last(nil)}),
		"greatest number":                     typedLines([]line{let("a", number(math.MaxInt64)), last(nil)}),
		"empty text":                          typedLines([]line{let("a", quoted("")), last(nil)}),
		"widest set":                          typedLines([]line{last(setOf(numberedNames("n", maxSet)...))}),
		"a let used in the grant of the else": typedLines([]line{let("a", attr(4)), last(letAt(0))}),
		"lists that are empty, not nil": {
			Nodes: []impl.Node{{Op: impl.OpAttr, Num: 4, Names: []string{}, Kids: []int{}}},
			Stmts: []impl.Stmt{{Kind: impl.SElse, Cond: -1}},
			Types: []int{impl.TySet},
		},
		"no lists, not nil": {
			Nodes: []impl.Node{}, Stmts: []impl.Stmt{{Kind: impl.SElse, Cond: -1, Grant: -1}}, Types: []int{},
		},
	}
	for num := range attributeNames {
		good["attribute "+attributeNames[num]] = typedLines([]line{let("a", attr(int64(num))), last(nil)})
	}
	for why, typed := range good {
		if !impl.WellTyped(typed) {
			t.Errorf("%s: not well-typed", why)
		}
		if !isWellTyped(typed) {
			t.Errorf("%s: not well-typed by the second reading", why)
		}
	}
}

func TestWellTypedRefuses(t *testing.T) {
	for why, typed := range wrongTyped() {
		if impl.WellTyped(typed) {
			t.Errorf("%s: well-typed", why)
		}
	}
}

func TestWellTypedOfManyPolicies(t *testing.T) {
	random := rand.New(rand.NewSource(73))
	counts := map[bool]int{}
	for range 40000 {
		g := typedRandom{random: random}
		typed := typedLines(g.lines(4, 3))
		for range random.Intn(3) {
			spoilTypedAtRandom(random, &typed)
		}
		want := isWellTyped(typed)
		counts[want]++
		if got := impl.WellTyped(typed); got != want {
			t.Fatalf("WellTyped(%+v) = %v", typed, got)
		}
	}
	if counts[true] < 1000 || counts[false] < 1000 {
		t.Errorf("well-typed and not: %v", counts)
	}
}

func spoilTypedAtRandom(random *rand.Rand, t *impl.Typed) {
	if len(t.Nodes) == 0 || random.Intn(2) == 0 {
		p := impl.Policy{Nodes: t.Nodes, Stmts: t.Stmts}
		spoilAtRandom(random, &p)
		t.Nodes, t.Stmts = p.Nodes, p.Stmts
		return
	}
	i := random.Intn(len(t.Nodes))
	switch random.Intn(4) {
	case 0:
		t.Types = append(t.Types[:min(i, len(t.Types))], t.Types[min(i+1, len(t.Types)):]...)
	case 1:
		if i < len(t.Types) {
			t.Types[i] = random.Intn(6)
		}
	case 2:
		t.Nodes[i].Num = int64(random.Intn(8) - 1)
	case 3:
		// One operator for another of the same types changes nothing that is asked.
		t.Nodes[i].Op += random.Intn(3) - 1
	}
}
