package tests

import (
	"maps"
	"math/big"
	"slices"
	"strings"

	"loop.example/s01308/impl"
)

// unsafeOps are the operators whose evaluation may end with an error.
var unsafeOps = []int{
	impl.OpNeg, impl.OpAdd, impl.OpSub, impl.OpMul, impl.OpDiv, impl.OpMod, impl.OpUnion,
}

func isSafe(t *tree) bool {
	return !slices.Contains(unsafeOps, t.op) &&
		!slices.ContainsFunc(t.kids, func(kid *tree) bool { return !isSafe(kid) })
}

// rewriteRows are the lines 3 to 14 of step 1 in their order. A row has the operator,
// what each kid must be, and what the node becomes. T, F, E, 0 and 1 stand for the
// constants (E for the empty set), s for what is safe, l for the same leaf on both
// sides, c for equal constants, n for a "not", and _ for anything; the result is the
// kid x, y or z, the kid of x (k), or a constant.
var rewriteRows = []struct {
	op   int
	rows string
}{
	{impl.OpAnd, "T_:y F_:x _T:x sF:y"},
	{impl.OpOr, "F_:y T_:x _F:x sT:y"},
	{impl.OpIf, "T__:y F__:z scc:y"},
	{impl.OpNot, "n:k"},
	{impl.OpUnion, "E_:y _E:x ll:x"},
	{impl.OpMeet, "Es:x sE:y ll:x"},
	{impl.OpMinus, "_E:x Es:x ll:E"},
	{impl.OpAdd, "0_:y _0:x"},
	{impl.OpSub, "_0:x"},
	{impl.OpMul, "1_:y _1:x 0s:x s0:y"},
	{impl.OpDiv, "_1:x"},
	{impl.OpEq, "ll:T"},
	{impl.OpMost, "ll:T"},
	{impl.OpWithin, "ll:T Es:T"},
	{impl.OpNe, "ll:F"},
	{impl.OpLess, "ll:F"},
	{impl.OpIn, "sE:F"},
}

var rowConstants = map[byte]*tree{
	'T': truth(true), 'F': truth(false), 'E': setOf(), '0': number(0), '1': number(1),
}

func isConst(t *tree) bool {
	return slices.Contains([]int{impl.OpInt, impl.OpText, impl.OpBool, impl.OpSet}, t.op)
}

func isLeaf(t *tree) bool { return t.op == impl.OpAttr || t.op == impl.OpLet }

// sameTree holds for trees that are written alike.
func sameTree(a, b *tree) bool {
	return a.op == b.op && a.num == b.num && a.text == b.text && slices.Equal(a.names, b.names) &&
		slices.EqualFunc(a.kids, b.kids, sameTree)
}

func kidFits(mark byte, kid *tree, kids []*tree) bool {
	switch mark {
	case '_':
		return true
	case 's':
		return isSafe(kid)
	case 'l':
		return isLeaf(kid) && sameTree(kids[0], kids[1])
	case 'c':
		return isConst(kid) && sameTree(kids[1], kids[2])
	case 'n':
		return kid.op == impl.OpNot
	}
	return sameTree(kid, rowConstants[mark])
}

// byRow gives what the node becomes by the first row that fits, nil if none does.
func byRow(t *tree) *tree {
	for _, of := range rewriteRows {
		if of.op != t.op {
			continue
		}
	rows:
		for _, row := range strings.Fields(of.rows) {
			marks, result, _ := strings.Cut(row, ":")
			for i := range len(marks) {
				if !kidFits(marks[i], t.kids[i], t.kids) {
					continue rows
				}
			}
			if result == "k" {
				return t.kids[0].kids[0]
			}
			if i := strings.Index("xyz", result); i >= 0 {
				return t.kids[i]
			}
			return rowConstants[result[0]]
		}
	}
	return nil
}

// folded gives the constant of an operation on constants, nil if it ends with an
// error.
func folded(t *tree) (out *tree) {
	defer func() {
		if _, ok := recover().(stop); ok {
			out = nil
		}
	}()
	p := flatten([]line{last(t)})
	d := secondDecider{t: impl.Typed{Nodes: p.Nodes}}
	switch v := d.eval(len(p.Nodes) - 1).(type) {
	case bool:
		return truth(v)
	case *big.Int:
		return number(v.Int64())
	case string:
		return quoted(v)
	case map[string]bool:
		return setOf(slices.Sorted(maps.Keys(v))...)
	}
	return nil
}

func rewrittenTree(t *tree, lets []*tree) *tree {
	if t == nil {
		return nil
	}
	out := *t
	out.kids = nil
	for _, kid := range t.kids {
		out.kids = append(out.kids, rewrittenTree(kid, lets))
	}
	if t.op == impl.OpLet && isConst(lets[t.num]) {
		return lets[t.num]
	}
	if len(out.kids) > 0 && !slices.ContainsFunc(out.kids, func(kid *tree) bool { return !isConst(kid) }) {
		if constant := folded(&out); constant != nil {
			return constant
		}
	}
	if simpler := byRow(&out); simpler != nil {
		return simpler
	}
	return &out
}

// secondOptimize says once more what the three steps give.
func secondOptimize(lines []line) []line {
	var lets []*tree
	var stepped []line
	for _, l := range lines {
		l.cond, l.grant = rewrittenTree(l.cond, lets), rewrittenTree(l.grant, lets)
		if l.kind == impl.SLet {
			lets = append(lets, l.cond)
		}
		if l.kind == impl.SWhen && sameTree(l.cond, truth(false)) {
			continue
		}
		if l.kind == impl.SWhen && sameTree(l.cond, truth(true)) {
			l = last(l.grant)
		}
		stepped = append(stepped, l)
	}
	for i, l := range stepped {
		if l.kind == impl.SElse {
			stepped = stepped[:i+1]
			break
		}
	}
	return withoutLets(stepped)
}

// withoutLets takes one let after the other away; each time all that stand behind it
// are numbered anew.
func withoutLets(lines []line) []line {
	for i := len(lines) - 1; i >= 0; i-- {
		if lines[i].kind != impl.SLet || !isSafe(lines[i].cond) {
			continue
		}
		num := int64(0)
		for _, l := range lines[:i] {
			if l.kind == impl.SLet {
				num++
			}
		}
		if slices.ContainsFunc(lines, func(l line) bool { return refersTo(l.cond, num) || refersTo(l.grant, num) }) {
			continue
		}
		lines = slices.Delete(slices.Clone(lines), i, i+1)
		for j, l := range lines {
			lines[j].cond, lines[j].grant = withoutNumber(l.cond, num), withoutNumber(l.grant, num)
		}
	}
	return lines
}

func refersTo(t *tree, num int64) bool {
	return t != nil && (t.op == impl.OpLet && t.num == num ||
		slices.ContainsFunc(t.kids, func(kid *tree) bool { return refersTo(kid, num) }))
}

func withoutNumber(t *tree, num int64) *tree {
	if t == nil {
		return nil
	}
	out := *t
	out.kids = nil
	if t.op == impl.OpLet && t.num > num {
		out.num--
	}
	for _, kid := range t.kids {
		out.kids = append(out.kids, withoutNumber(kid, num))
	}
	return &out
}
