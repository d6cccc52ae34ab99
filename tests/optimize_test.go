package tests

import (
	"math"
	"math/rand"
	"regexp"
	"slices"
	"strings"
	"testing"

	"loop.example/s01308/impl"
)

func wantOptimized(t *testing.T, typed, want impl.Typed) {
	t.Helper()
	if got := impl.Optimize(typed); !sameTyped(got, want) {
		t.Fatalf("Optimize(%+v) = %+v, want %+v", typed, got, want)
	}
}

// checkOptimized holds P7 and P8 for one policy and some requests.
func checkOptimized(t *testing.T, typed impl.Typed, requests ...impl.Request) {
	t.Helper()
	smaller := impl.Optimize(typed)
	if !impl.WellTyped(smaller) || !isWellTyped(smaller) {
		t.Fatalf("Optimize(%+v) = %+v, which is not well-typed", typed, smaller)
	}
	if len(smaller.Nodes) > len(typed.Nodes) || len(smaller.Stmts) > len(typed.Stmts) {
		t.Fatalf("Optimize(%+v) = %+v, which is greater", typed, smaller)
	}
	if again := impl.Optimize(smaller); !sameTyped(again, smaller) {
		t.Fatalf("Optimize(%+v) = %+v, which is optimized to %+v", typed, smaller, again)
	}
	for _, r := range requests {
		ahead, behind := impl.Decide(typed, r), impl.Decide(smaller, r)
		if !sameOutcome(ahead, behind) || !sameOutcome(ahead, secondDecide(typed, r)) {
			t.Fatalf("%+v, optimized to %+v, says about %+v: %+v and %+v", typed, smaller, r, ahead, behind)
		}
	}
}

// edgeRequests have equal and different attributes, empty and widest sets.
func edgeRequests() []impl.Request {
	random := rand.New(rand.NewSource(75))
	requests := []impl.Request{plainRequest()}
	for _, level := range []int64{0, 1, -1, math.MaxInt64, math.MinInt64} {
		r := someRequest(random)
		r.Level = level
		requests = append(requests, r)
	}
	wide := plainRequest()
	wide.Asked, wide.Agreed = numberedNames("n", maxSet), numberedNames("m", 1)
	return append(requests, wide)
}

// expressionText gives a policy that uses an expression of the type once, such that
// no line fits above it.
func expressionText(expression string, typ int) string {
	switch typ {
	case impl.TyBool:
		return "when " + expression + " => deny; else grant asked;"
	case impl.TyInt:
		return "when (" + expression + ") < now => deny; else grant asked;"
	case impl.TyText:
		return "when (" + expression + ") in agreed => deny; else grant asked;"
	}
	return "else grant " + expression + ";"
}

// Each line of step 1 by hand: what fits becomes what stands behind the arrow, and
// what barely does not stays. Division by level may end with an error.
func TestOptimizeLinesByHand(t *testing.T) {
	const b, u = "(client == user)", "(1 / level == 1)" // safe, and not
	const s, w = "asked & agreed", "(asked | agreed)"   // safe, and not
	const i, d = "size(asked)", "(1 / level)"           // safe, and not
	const wide = `{"x"} | asked`
	for typ, lines := range map[int][]string{
		impl.TyBool: {
			// 2: constants
			"1 < 2 -> true", "2 < 1 -> false", `"a" in {"a"} -> true`, `{"b"} within {"a"} -> false`, "not true -> false",
			"1 == 1 -> true", `"a" != "a" -> false`, "true and false -> false", "false or true -> true",
			"if true then false else true -> false", "{} == {} -> true", "1 / 0 == 1 -> ", "true == true -> true",
			"size({\"a\"}) == 1 -> true", "1 / 0 == 1 and true -> 1 / 0 == 1", "(not (1 < 2)) or false -> false",
			// 3
			"true and " + b + " -> " + b, "true and " + u + " -> " + u, "false and " + b + " -> false", "false and " + u + " -> false",
			b + " and true -> " + b, u + " and true -> " + u, b + " and false -> false", u + " and false -> ",
			b + " and " + u + " -> ", u + " and " + b + " -> ", b + " and " + b + " -> ",
			// 4
			"false or " + b + " -> " + b, "false or " + u + " -> " + u, "true or " + b + " -> true", "true or " + u + " -> true",
			b + " or false -> " + b, u + " or false -> " + u, b + " or true -> true", u + " or true -> ",
			b + " or " + u + " -> ", u + " or " + b + " -> ", b + " or " + b + " -> ",
			// 5
			"if true then " + b + " else " + u + " -> " + b, "if true then " + u + " else " + b + " -> " + u,
			"if false then " + b + " else " + u + " -> " + u, "if false then " + u + " else " + b + " -> " + b,
			"if " + b + " then true else true -> true", "if " + u + " then true else true -> ",
			"if " + b + " then true else false -> ", "if " + b + " then " + b + " else " + b + " -> ",
			"if " + b + " then 1 < 2 else 2 < 3 -> true",
			// 6
			"not not " + b + " -> " + b, "not not " + u + " -> " + u, "not not not " + b + " -> not " + b, "not not not not " + u + " -> " + u,
			"not " + b + " -> ", "not (not " + b + " and true) -> " + b,
			// 13
			"level == level -> true", "client == client -> true", "asked == asked -> true", "asked within asked -> true",
			"level <= level -> true", "level < level -> false", "level != level -> false", "user != user -> false", "agreed != agreed -> false",
			"level == now -> ", "client != user -> ", "asked within agreed -> ", "level <= now -> ", "level < now -> ",
			"level + 1 == level + 1 -> ", s + " == " + s + " -> ", "(client in asked) == (client in asked) -> ",
			"level + 0 == 1 * level -> true", "level / 1 < level - 0 -> false",
			// 14
			"{} within asked -> true", "{} within " + s + " -> true", "{} within " + w + " -> ", "asked within {} -> ",
			"client in {} -> false", "(if " + b + " then client else user) in {} -> false",
			"(if " + u + " then client else user) in {} -> ", "client in asked -> ",
		},
		impl.TyInt: {
			"1 + 2 -> 3", "2 * 3 - 1 -> 5", "7 / 2 -> 3", "7 % 2 -> 1", `size({"a", "b"}) -> 2`, "if true then 1 else 2 -> 1",
			"9223372036854775807 + 1 -> ", "1 / 0 -> ", "1 % 0 -> ", "0 / 0 -> ", "1 + 1 / 0 -> ", "(1 + 2) / 0 -> 3 / 0",
			"if 1 / 0 == 1 then 1 else 1 -> ", "if " + b + " then 1 else 1 -> 1", "if " + b + " then 1 else 2 -> ", "if " + u + " then 1 else 1 -> ",
			// 10
			"0 + level -> level", "level + 0 -> level", "0 + " + d + " -> " + d, d + " + 0 -> " + d, "level - 0 -> level", d + " - 0 -> " + d,
			"0 - level -> ", "level - level -> ", "level + 1 -> ", "1 + level -> ", "level - 1 -> ", "level + level -> ", "-level -> ", "- -level -> ",
			// 11
			"1 * level -> level", "level * 1 -> level", "1 * " + d + " -> " + d, d + " * 1 -> " + d, "0 * level -> 0", "level * 0 -> 0",
			"0 * " + i + " -> 0", i + " * 0 -> 0", "0 * " + d + " -> ", d + " * 0 -> ", "0 * (level + 1) -> ", "(-level) * 0 -> ",
			"2 * level -> ", "level * 2 -> ", "level * level -> ",
			// 12
			"level / 1 -> level", d + " / 1 -> " + d, "1 / level -> ", "0 / level -> ", "level / 0 -> ", "level / level -> ", "level / 2 -> ",
			"level % 1 -> ", "level % 0 -> ", "0 % level -> ", "1 % level -> ",
		},
		impl.TyText: {
			`if true then "a" else client -> "a"`, "if false then client else user -> user", `if ` + b + ` then "a" else "a" -> "a"`,
			`if ` + b + ` then "a" else "b" -> `, `if ` + u + ` then "a" else "a" -> `, `if ` + b + ` then "" else "" -> ""`,
			`if ` + b + ` then client else client -> `,
		},
		impl.TySet: {
			`{"a"} | {"b"} -> {"a", "b"}`, `{"a"} & {"b"} -> {}`, `{"a", "b"} \ {"b"} -> {"a"}`, `{} | {} -> {}`,
			wideUnion(maxSet+1) + " -> ", `if ` + b + ` then {"a"} else {"a"} -> {"a"}`, `if ` + b + ` then {"a"} else {"b"} -> `,
			`if ` + b + ` then {} else {} -> {}`, `if ` + u + ` then {} else {} -> `, `if ` + b + ` then {"a"} else {} -> `,
			// 7
			"{} | asked -> asked", "asked | {} -> asked", "{} | " + w + " -> " + w, w + " | {} -> " + w, "asked | asked -> asked",
			"asked | agreed -> ", wide + " -> ", w + " | " + w + " -> ", "(asked & agreed) | (asked & agreed) -> ",
			// 8
			"{} & asked -> {}", "asked & {} -> {}", "{} & (" + s + ") -> {}", s + " & {} -> {}", "{} & " + w + " -> ", w + " & {} -> ",
			"asked & asked -> asked", "asked & agreed -> ", w + " & asked -> ", w + " & " + w + " -> ",
			// 9
			`asked \ {} -> asked`, w + ` \ {} -> ` + w, `{} \ asked -> {}`, `{} \ (` + s + `) -> {}`, `{} \ ` + w + ` -> `,
			`asked \ asked -> {}`, `asked \ agreed -> `, w + ` \ ` + w + ` -> `, `asked \ {"a"} -> `, `{"a"} \ asked -> `,
		},
	} {
		for _, row := range lines {
			before, after, _ := strings.Cut(row, " -> ")
			if after == "" {
				after = before
			}
			typed := mustLoad(t, "let x = "+before+"; "+expressionText("x", typ))
			inside := mustLoad(t, "let x = if client in asked then "+before+" else "+otherOf(typ)+"; "+expressionText("x", typ))
			wantInside := mustLoad(t, "let x = if client in asked then "+after+" else "+otherOf(typ)+"; "+expressionText("x", typ))
			wantOptimized(t, typed, mustLoad(t, letOrConstant(after, typ)))
			wantOptimized(t, inside, wantInside)
			checkOptimized(t, typed, edgeRequests()...)
			checkOptimized(t, inside, edgeRequests()...)
		}
	}
}

// otherOf gives an expression of the type that no line makes smaller, and that is no
// constant.
func otherOf(typ int) string {
	return map[int]string{impl.TyBool: "user in agreed", impl.TyInt: "now", impl.TyText: "user", impl.TySet: "agreed"}[typ]
}

// letOrConstant gives the policy to which the let of an expression that stays, and
// its use, are optimized: a constant goes to where it is used, and a truth decides.
func letOrConstant(expression string, typ int) string {
	switch {
	case expression == "true":
		return "else deny;"
	case expression == "false":
		return "else grant asked;"
	case regexp.MustCompile(`^(\d+|"[a-z]*"|\{[^}]*\})$`).MatchString(expression):
		return expressionText(expression, typ)
	}
	return "let x = " + expression + "; " + expressionText("x", typ)
}

// Whole policies by hand: what each text is optimized to.
func TestOptimizePoliciesByHand(t *testing.T) {
	for _, x := range []struct{ text, want string }{
		// Step 2.
		{"when false => deny; else grant asked;", "else grant asked;"},
		{"when true => deny; else grant asked;", "else deny;"},
		{"when true => grant agreed; else grant asked;", "else grant agreed;"},
		{"when true => grant asked | {}; when true => deny; else deny;", "else grant asked;"},
		{"when false => deny; when true => grant asked; when true => deny; else deny;", "else grant asked;"},
		{"when client == user => deny; when 1 < 2 => deny; when level == 1 => deny; else grant asked;", "when client == user => deny; else deny;"},
		{"when level == 1 and false => deny; else deny;", "else deny;"},
		{"when 1 / level == 1 and false => deny; else deny;", "when 1 / level == 1 and false => deny; else deny;"},
		{"when 1 / 0 == 1 => deny; when true => grant {}; else deny;", "when 1 / 0 == 1 => deny; else grant {};"},
		{"when false => deny; when false => deny; else deny;", "else deny;"},
		{"when client == user => grant asked & {}; else deny;", "when client == user => grant {}; else deny;"},
		// Step 3.
		{"let a = 1; else deny;", "else deny;"},
		{"let a = level; else deny;", "else deny;"},
		{"let a = 1 / 0; else deny;", "let a = 1 / 0; else deny;"},
		{"let a = level + 1; else deny;", "let a = level + 1; else deny;"},
		{"let a = level + 0; else deny;", "else deny;"},
		{"let a = asked | agreed; else deny;", "let a = asked | agreed; else deny;"},
		{"let a = -level; else deny;", "let a = -level; else deny;"},
		{"let a = asked & agreed; else grant a;", "let a = asked & agreed; else grant a;"},
		{"let a = level; let b = a; else deny;", "else deny;"},
		{"let a = level; let b = a; let c = b; else deny;", "else deny;"},
		{"let a = level; let b = a; let c = b + 1; else deny;", "let a = level; let b = a; let c = b + 1; else deny;"},
		{"let a = asked; let b = agreed; else grant b;", "let b = agreed; else grant b;"},
		{"let a = asked; let b = agreed; let c = now; when c < 3 => deny; else grant b;", "let b = agreed; let c = now; when c < 3 => deny; else grant b;"},
		{"let a = asked; let b = 1 / level; let c = agreed; else grant c;", "let b = 1 / level; let c = agreed; else grant c;"},
		{"let a = asked; let b = now; let c = a & agreed; let d = b; else grant c;", "let a = asked; let c = a & agreed; else grant c;"},
		// A let that only a left-out statement uses.
		{"let a = level; when a == a => deny; else deny;", "else deny;"},
		{"let a = asked; when false => grant a; else deny;", "else deny;"},
		{"let a = asked; when true => deny; else grant a;", "else deny;"},
		{"let a = asked; when true => deny; let b = a; let c = 1 / 0; else grant b;", "else deny;"},
		{"let a = client == user; when a and false => deny; else deny;", "else deny;"},
		{"let a = level; let b = if false then a else now; when b < 3 => deny; else deny;", "let b = now; when b < 3 => deny; else deny;"},
		// Constants of lets go where the lets are used, and on from there.
		{"let a = 1; let b = a + 1; let c = b * 2; when c == 4 => grant asked; else deny;", "else grant asked;"},
		{"let a = 1; let b = a + level; when b < 3 => deny; else deny;", "let b = 1 + level; when b < 3 => deny; else deny;"},
		{`let few = {"a"} | {"b"}; when size(few) == 3 => deny; else grant few & asked;`, `else grant {"a", "b"} & asked;`},
		{"let a = 0; when level + a == a => deny; else deny;", "when level == 0 => deny; else deny;"},
		{"let a = 1 / 0; when a == a => deny; else deny;", "let a = 1 / 0; else deny;"},
		{"let a = 1 / 0; when a == 1 => deny; else deny;", "let a = 1 / 0; when a == 1 => deny; else deny;"},
		{"let a = asked; let b = asked; else grant a | b;", "let a = asked; let b = asked; else grant a | b;"},
		{"let a = asked; else grant a | a;", "let a = asked; else grant a;"},
		{"let a = asked; else grant a | asked;", "let a = asked; else grant a | asked;"},
		{`let a = asked; else grant a \ a;`, "else grant {};"},
		{"let a = true; let b = client == user; when if a then b else a => deny; else deny;", "let b = client == user; when b => deny; else deny;"},
		// Names stay, and numbers go on.
		{"let q = 1; let p = asked; let o = 2; let n = agreed; else grant p & n;", "let p = asked; let n = agreed; else grant p & n;"},
	} {
		typed, want := mustLoad(t, x.text), mustLoad(t, x.want)
		wantOptimized(t, typed, want)
		checkOptimized(t, typed, edgeRequests()...)
		wantOptimized(t, want, want)
	}
}

// Negative constants come out of step 1, and go into it.
func TestOptimizeNegativeNumbers(t *testing.T) {
	least, level := number(math.MinInt64), attr(2)
	for _, x := range []struct{ before, after *tree }{
		{node(impl.OpNeg, number(3)), number(-3)},
		{node(impl.OpNeg, number(-3)), number(3)},
		{node(impl.OpNeg, least), nil},
		{node(impl.OpSub, number(0), number(7)), number(-7)},
		{node(impl.OpDiv, least, number(-1)), nil},
		{node(impl.OpMod, least, number(-1)), number(0)},
		{node(impl.OpMul, least, number(-1)), nil},
		{node(impl.OpAdd, least, number(-1)), nil},
		{node(impl.OpSub, node(impl.OpNeg, number(math.MaxInt64)), number(1)), least},
		{node(impl.OpMul, number(-1), level), nil},
		{node(impl.OpDiv, level, number(-1)), nil},
		{node(impl.OpAdd, level, node(impl.OpAdd, number(-1), number(1))), level},
		{node(impl.OpMul, level, node(impl.OpNeg, number(-1))), level},
		{node(impl.OpDiv, level, node(impl.OpSub, number(0), number(-1))), level},
	} {
		if x.after == nil {
			x.after = x.before
		}
		lines := func(e *tree) []line { return []line{when(node(impl.OpLess, e, attr(3)), nil), last(attr(4))} }
		wantOptimized(t, typedLines(lines(x.before)), typedLines(lines(x.after)))
		checkOptimized(t, typedLines(lines(x.before)), edgeRequests()...)
	}
}

// kidsToTry are small expressions of a type, such that each line fits and barely
// does not; v0 to v7 are lets.
func kidsToTry(typ int) []*tree {
	level, asked, agreed := attr(2), attr(4), attr(5)
	same := node(impl.OpEq, attr(0), attr(1))
	fails := node(impl.OpEq, node(impl.OpDiv, number(1), level), number(1))
	switch typ {
	case impl.TyBool:
		return []*tree{
			truth(true), truth(false), same, fails, node(impl.OpNot, same), node(impl.OpNot, fails), letAt(0), letAt(1),
			node(impl.OpLess, number(1), number(2)), node(impl.OpEq, node(impl.OpDiv, number(1), number(0)), number(1)),
		}
	case impl.TyInt:
		return []*tree{
			number(0), number(1), number(2), number(-1), number(math.MinInt64), number(math.MaxInt64), level, attr(3), letAt(2), letAt(3),
			node(impl.OpSize, asked), node(impl.OpDiv, number(1), level), node(impl.OpSub, number(1), number(1)), node(impl.OpNeg, level),
		}
	case impl.TyText:
		return []*tree{
			quoted(""), quoted("a"), attr(0), attr(1), letAt(4), letAt(5),
			node(impl.OpIf, same, attr(0), attr(1)), node(impl.OpIf, fails, attr(0), attr(1)),
		}
	}
	return []*tree{
		setOf(), setOf("a"), setOf("a", "b"), setOf(numberedNames("n", maxSet)...), asked, agreed, letAt(6), letAt(7),
		node(impl.OpMeet, asked, agreed), node(impl.OpUnion, asked, agreed), node(impl.OpMinus, asked, asked),
		node(impl.OpUnion, setOf("z"), setOf(numberedNames("n", maxSet)...)),
	}
}

// letsToTry has for each type a let that is a constant and one that is none.
func letsToTry() []line {
	return []line{
		let("v0", truth(true)), let("v1", node(impl.OpIn, attr(0), attr(4))),
		let("v2", number(0)), let("v3", node(impl.OpSize, attr(5))),
		let("v4", quoted("a")), let("v5", node(impl.OpIf, node(impl.OpIn, attr(1), attr(4)), attr(0), attr(1))),
		let("v6", setOf()), let("v7", node(impl.OpMeet, attr(5), attr(4))),
	}
}

// Each operator on all of kidsToTry, held against the rows and the promises.
func TestOptimizeAllSmallTrees(t *testing.T) {
	requests := edgeRequests()
	for _, op := range operators() {
		for _, free := range allTypes {
			var types []int
			for _, field := range strings.Fields(strings.Split(typeRows[op], "->")[0]) {
				typ := typeNames[field]
				if field == "T" {
					typ = free
				}
				types = append(types, typ)
			}
			if !strings.Contains(typeRows[op], "T") && free != impl.TyBool {
				continue
			}
			eachKids(types, func(kids []*tree) {
				top := node(op, kids...)
				lines := append(letsToTry(), let("x", top))
				if rowType(op, types) == impl.TyBool {
					lines = append(lines, when(top, attr(4)))
				}
				lines = append(lines, when(node(impl.OpEq, letAt(8), letAt(8)), attr(5)), last(nil))
				typed := typedLines(lines)
				wantOptimized(t, typed, typedLines(secondOptimize(lines)))
				checkOptimized(t, typed, requests...)
			})
		}
	}
}

func eachKids(types []int, do func(kids []*tree)) {
	if len(types) == 0 {
		do(nil)
		return
	}
	eachKids(types[:len(types)-1], func(kids []*tree) {
		for _, kid := range kidsToTry(types[len(types)-1]) {
			do(append(slices.Clone(kids), kid))
		}
	})
}

func TestOptimizeManyPolicies(t *testing.T) {
	random := rand.New(rand.NewSource(76))
	smaller, kept := 0, 0
	for range 6000 {
		g := typedRandom{random: random}
		lines := g.lines(6, 5)
		typed := typedLines(lines)
		wantOptimized(t, typed, typedLines(secondOptimize(lines)))
		checkOptimized(t, typed, someRequest(random), someRequest(random), someRequest(random), plainRequest())
		if len(impl.Optimize(typed).Nodes) < len(typed.Nodes) {
			smaller++
		} else {
			kept++
		}
	}
	if smaller < 1000 || kept < 100 {
		t.Errorf("%d smaller, %d not", smaller, kept)
	}
}

// Many lets, of which some use others and most whens are in between, so that the
// numbers of lets change in many ways.
func TestOptimizeManyLets(t *testing.T) {
	random := rand.New(rand.NewSource(77))
	for range 3000 {
		g := typedRandom{random: random}
		lines := g.lines(30, 3)
		typed := typedLines(lines)
		wantOptimized(t, typed, typedLines(secondOptimize(lines)))
		checkOptimized(t, typed, someRequest(random), plainRequest())
	}
}

func TestOptimizeOfWhatIsRead(t *testing.T) {
	random := rand.New(rand.NewSource(78))
	for range 3000 {
		g := typedRandom{random: random, written: true}
		lines := g.lines(5, 4)
		text := printedLines(written(lines))
		if len(text) > maxText {
			continue
		}
		wantOptimized(t, mustLoad(t, text), typedLines(secondOptimize(lines)))
	}
}

func TestOptimizeAtTheLimits(t *testing.T) {
	same := node(impl.OpEq, attr(0), attr(1))
	wide := numberedNames(strings.Repeat("n", maxName-4), maxSet)
	manyUses := []line{let("a", setOf(wide...))}
	for range maxStmts - 2 {
		manyUses = append(manyUses, when(node(impl.OpIn, attr(0), letAt(0)), letAt(0)))
	}
	for _, lines := range [][]line{
		manyLets(maxStmts),
		append(manyLets(maxStmts)[:maxStmts-1], last(attr(4))),
		{when(wideOf(maxNodes, truth(true)), nil), last(nil)},
		{let("a", same), when(wideOf(maxNodes-3, letAt(0)), nil), last(nil)},
		{when(deepOf(maxDepth-1, same), nil), last(nil)},
		{when(deepOf(maxDepth, truth(false)), setOf("a")), last(nil)},
		append(manyUses, last(letAt(0))),
	} {
		typed := typedLines(lines)
		wantOptimized(t, typed, typedLines(secondOptimize(lines)))
		checkOptimized(t, typed, plainRequest())
	}
}

func TestOptimizeWhatIsNotWellTyped(t *testing.T) {
	for why, typed := range wrongTyped() {
		if got := impl.Optimize(typed); !isEmptyTyped(got) {
			t.Errorf("%s: %+v", why, got)
		}
	}
}

func TestSafeOfEachOperator(t *testing.T) {
	for _, op := range operators() {
		var kids []*tree
		for _, typ := range kidTypes(rand.New(rand.NewSource(1)), op, impl.TyBool) {
			kids = append(kids, kidsToTry(typ)[0])
		}
		top := node(op, kids...)
		typed := typedLines([]line{let("a", top), let("b", letAt(0)), last(nil)})
		place := len(kids)
		if got, want := impl.Safe(typed, place), !slices.Contains(unsafeOps, op); got != want {
			t.Errorf("%+v: %v", top, got)
		}
		for kid := range place {
			if !impl.Safe(typed, kid) {
				t.Errorf("kid %d of %+v is not safe", kid, top)
			}
		}
		// A let that stands for what is not safe is safe: its error came ahead.
		if !impl.Safe(typed, place+1) {
			t.Errorf("a let that stands for %+v is not safe", top)
		}
	}
	for num := range attributeNames {
		if !impl.Safe(typedLines([]line{let("a", attr(int64(num))), last(nil)}), 0) {
			t.Errorf("attribute %d is not safe", num)
		}
	}
}

func TestSafeOfManyTrees(t *testing.T) {
	random := rand.New(rand.NewSource(79))
	counts := map[bool]int{}
	for range 3000 {
		g := typedRandom{random: random}
		typed := typedLines(g.lines(4, 4))
		safe := make([]bool, len(typed.Nodes))
		for i, n := range typed.Nodes {
			safe[i] = !slices.Contains(unsafeOps, n.Op)
			for _, kid := range n.Kids {
				safe[i] = safe[i] && safe[kid]
			}
			if got := impl.Safe(typed, i); got != safe[i] {
				t.Fatalf("Safe(%+v, %d) = %v", typed, i, got)
			}
			counts[safe[i]]++
		}
	}
	if counts[true] < 1000 || counts[false] < 1000 {
		t.Errorf("safe and not: %v", counts)
	}
}

func TestSafeOfWrongArguments(t *testing.T) {
	typed := goodTyped()
	for _, place := range []int{-1, -2, len(typed.Nodes), len(typed.Nodes) + 1, math.MaxInt, math.MinInt} {
		if impl.Safe(typed, place) {
			t.Errorf("place %d is safe", place)
		}
	}
	if impl.Safe(typedLines([]line{last(nil)}), 0) {
		t.Error("a place where there are no nodes is safe")
	}
	for why, typed := range wrongTyped() {
		for _, place := range []int{0, 1, len(typed.Nodes) - 1} {
			if impl.Safe(typed, place) {
				t.Errorf("%s: place %d is safe", why, place)
			}
		}
	}
}
