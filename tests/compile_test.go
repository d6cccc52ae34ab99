package tests

import (
	"math/rand"
	"slices"
	"strings"
	"testing"

	"loop.example/s01308/impl"
)

func wantCompiled(t *testing.T, typed impl.Typed, want impl.Code) {
	t.Helper()
	if got := impl.Compile(typed); !sameCode(got, want) {
		t.Fatalf("Compile(%s) = %s, want %s", brief(typed), brief(got), brief(want))
	}
}

// checkCompiled holds P9 for one policy and some requests, with P10 and P12 for
// the codes that come about.
func checkCompiled(t *testing.T, typed impl.Typed, requests ...impl.Request) {
	t.Helper()
	for _, c := range []impl.Code{impl.Compile(typed), impl.Compile(impl.Optimize(typed))} {
		if !hasShape(c) {
			t.Fatalf("%s is compiled to %s, which has not the right shape", brief(typed), brief(c))
		}
		checkAccepted(t, c, requests...)
		for _, r := range requests {
			got, want := impl.Run(c, r).Out, impl.Decide(typed, r)
			if !sameOutcome(got, want) || !sameOutcome(want, secondDecide(typed, r)) {
				t.Fatalf("%s says about %+v: %+v, as code %s: %+v", brief(typed), r, want, brief(c), got)
			}
		}
	}
}

func TestCompileByHand(t *testing.T) {
	for text, want := range map[string]string{
		// Statements.
		"else deny;":                                 "deny",
		"else grant asked;":                          "attr 4; grant",
		`else grant {"b", "a"};`:                     "push {a,b}; grant",
		"when true => deny; else deny;":              "push true; unless @L; deny; @L; deny",
		"when false => grant {}; else grant agreed;": "push false; unless @L; push {}; grant; @L; attr 5; grant",
		"when true => deny; when false => deny; else deny;": `push true; unless @1; deny; @1; push false; unless @2; deny
			@2; deny`,
		"let a = 1; let b = a; let c = b + a; else deny;": "push 1; store 0; load 0; store 1; load 1; load 0; add; store 2; deny",
		"when true => deny; let a = asked; else grant a;": "push true; unless @L; deny; @L; attr 4; store 0; load 0; grant",
		// Leaves and operators with one kid.
		`let a = "x"; let b = ""; else deny;`:       `push "x"; store 0; push ""; store 1; deny`,
		"let a = client; let b = user; else deny;":  "attr 0; store 0; attr 1; store 1; deny",
		"let a = level; let b = now; else deny;":    "attr 2; store 0; attr 3; store 1; deny",
		"let a = asked; let b = agreed; else deny;": "attr 4; store 0; attr 5; store 1; deny",
		"let a = --level; else deny;":               "attr 2; neg; neg; store 0; deny",
		"let a = not not true; else deny;":          "push true; not; not; store 0; deny",
		"let a = -size(asked); else deny;":          "attr 4; size; neg; store 0; deny",
		// The left kid comes first, at any depth.
		"let a = 1 - 2 - 3; else deny;":            "push 1; push 2; sub; push 3; sub; store 0; deny",
		"let a = 1 - (2 - 3); else deny;":          "push 1; push 2; push 3; sub; sub; store 0; deny",
		"let a = level / now % -level; else deny;": "attr 2; attr 3; div; attr 2; neg; mod; store 0; deny",
		// The forms with marks, at the ends of a let, a condition and a grant.
		"let a = true and false; else deny;":        "push true; unless @F; push false; jump @E; @F; push false; @E; store 0; deny",
		"let a = true or false; else deny;":         "push true; unless @F; push true; jump @E; @F; push false; @E; store 0; deny",
		"let a = if true then 1 else 2; else deny;": "push true; unless @F; push 1; jump @E; @F; push 2; @E; store 0; deny",
		"when 1 < level and level < 3 => deny; else deny;": `push 1; attr 2; less; unless @F; attr 2; push 3; less; jump @E
			@F; push false; @E; unless @L; deny; @L; deny`,
		"when 1 < level or level < 3 => deny; else deny;": `push 1; attr 2; less; unless @F; push true; jump @E
			@F; attr 2; push 3; less; @E; unless @L; deny; @L; deny`,
		"when if 1 < level then true else now < 1 => deny; else deny;": `push 1; attr 2; less; unless @F; push true; jump @E
			@F; attr 3; push 1; less; @E; unless @L; deny; @L; deny`,
		"else grant if client == user then asked else agreed;": `attr 0; attr 1; eq; unless @F; attr 4; jump @E
			@F; attr 5; @E; grant`,
		"when true => grant if true then {} else asked; else deny;": `push true; unless @L
			push true; unless @F; push {}; jump @E; @F; attr 4; @E; grant; @L; deny`,
	} {
		typed := mustLoad(t, text)
		wantCompiled(t, typed, assemble(strings.Count(text, "let "), want))
		checkCompiled(t, typed, edgeRequests()...)
	}
}

// Forms that stand in one another; a, b and c are lets of truths.
func TestCompileNestedForms(t *testing.T) {
	const ahead = `push true; store 0; push false; store 1; attr 0; attr 1; eq; store 2
		`
	for expression, want := range map[string]string{
		"a and b and c":   "load 0; unless @f; load 1; jump @e; @f; push false; @e; unless @F; load 2; jump @E; @F; push false; @E",
		"a and (b and c)": "load 0; unless @F; load 1; unless @f; load 2; jump @e; @f; push false; @e; jump @E; @F; push false; @E",
		"a or b or c":     "load 0; unless @f; push true; jump @e; @f; load 1; @e; unless @F; push true; jump @E; @F; load 2; @E",
		"a or (b or c)":   "load 0; unless @F; push true; jump @E; @F; load 1; unless @f; push true; jump @e; @f; load 2; @e; @E",
		"a and b or c":    "load 0; unless @f; load 1; jump @e; @f; push false; @e; unless @F; push true; jump @E; @F; load 2; @E",
		"a or b and c":    "load 0; unless @F; push true; jump @E; @F; load 1; unless @f; load 2; jump @e; @f; push false; @e; @E",
		"(a or b) and c":  "load 0; unless @f; push true; jump @e; @f; load 1; @e; unless @F; load 2; jump @E; @F; push false; @E",
		"a and (b or c)":  "load 0; unless @F; load 1; unless @f; push true; jump @e; @f; load 2; @e; jump @E; @F; push false; @E",
		"not (a and b)":   "load 0; unless @F; load 1; jump @E; @F; push false; @E; not",
		"(a or b) == c":   "load 0; unless @F; push true; jump @E; @F; load 1; @E; load 2; eq",
		"c == (a or b)":   "load 2; load 0; unless @F; push true; jump @E; @F; load 1; @E; eq",
		"if if a then b else c then b else a": `load 0; unless @f; load 1; jump @e; @f; load 2; @e
			unless @F; load 1; jump @E; @F; load 0; @E`,
		"if a then if b then c else a else b": `load 0; unless @F; load 1; unless @f; load 2; jump @e; @f; load 0; @e; jump @E
			@F; load 1; @E`,
		"if a then b else if b then c else a": `load 0; unless @F; load 1; jump @E
			@F; load 1; unless @f; load 2; jump @e; @f; load 0; @e; @E`,
		"if a and b then c else a or b": `load 0; unless @f; load 1; jump @e; @f; push false; @e; unless @F; load 2; jump @E
			@F; load 0; unless @g; push true; jump @h; @g; load 1; @h; @E`,
		"a and (if b then c else a)": `load 0; unless @F; load 1; unless @f; load 2; jump @e; @f; load 0; @e; jump @E
			@F; push false; @E`,
		"a or (if b then c else a)": `load 0; unless @F; push true; jump @E
			@F; load 1; unless @f; load 2; jump @e; @f; load 0; @e; @E`,
	} {
		const lets = "let a = true; let b = false; let c = client == user; "
		for text, behind := range map[string]string{
			lets + "let d = " + expression + "; else deny;":                   "; store 3; deny",
			lets + "when " + expression + " => deny; else grant {};":          "; unless @L; deny; @L; push {}; grant",
			lets + "else grant if " + expression + " then asked else agreed;": "; unless @K; attr 4; jump @M; @K; attr 5; @M; grant",
			lets + "when " + expression + " => grant asked; when a => deny; else deny;": `; unless @L; attr 4; grant; @L; load 0; unless @M
				deny; @M; deny`,
		} {
			typed := mustLoad(t, text)
			wantCompiled(t, typed, assemble(strings.Count(text, "let "), ahead+want+behind))
			checkCompiled(t, typed, edgeRequests()...)
		}
	}
}

func TestCompileEachOperator(t *testing.T) {
	names := map[int]string{
		impl.OpNeg: "neg", impl.OpNot: "not", impl.OpSize: "size", impl.OpAdd: "add", impl.OpSub: "sub", impl.OpMul: "mul",
		impl.OpDiv: "div", impl.OpMod: "mod", impl.OpUnion: "union", impl.OpMeet: "meet", impl.OpMinus: "minus",
		impl.OpEq: "eq", impl.OpNe: "ne", impl.OpLess: "less", impl.OpMost: "most", impl.OpIn: "in", impl.OpWithin: "within",
	}
	leaves := map[int]string{impl.TyBool: "load 0", impl.TyInt: "attr 2", impl.TyText: "attr 1", impl.TySet: "attr 5"}
	trees := map[int]*tree{impl.TyBool: letAt(0), impl.TyInt: attr(2), impl.TyText: attr(1), impl.TySet: attr(5)}
	for op, name := range names {
		for _, free := range allTypes {
			want := []string{"push true", "store 0"}
			var kids []*tree
			for _, field := range strings.Fields(strings.Split(typeRows[op], "->")[0]) {
				typ := typeNames[field]
				if field == "T" {
					typ = free
				}
				kids = append(kids, trees[typ])
				want = append(want, leaves[typ])
			}
			typed := typedLines([]line{let("a", truth(true)), let("b", node(op, kids...)), last(nil)})
			want = append(want, name, "store 1", "deny")
			wantCompiled(t, typed, assemble(2, strings.Join(want, ";")))
			checkCompiled(t, typed, edgeRequests()...)
		}
	}
}

// wantPool takes the values as they are written to be pushed.
func wantPool(t *testing.T, text string, values ...string) {
	t.Helper()
	var want []impl.Value
	for _, v := range values {
		want = append(want, constantOf(v))
	}
	typed := mustLoad(t, text)
	if got := impl.Compile(typed).Pool; !slices.EqualFunc(got, want, sameValue) {
		t.Errorf("%q has the pool %+v, want %+v", text, got, want)
	}
	checkCompiled(t, typed, plainRequest())
}

func TestPoolOfCompiledCodes(t *testing.T) {
	wantPool(t, "else deny;")
	wantPool(t, "else grant asked & agreed;")
	wantPool(t, "let a = 1; let b = 1; let c = 1 + 1; else deny;", "1")
	wantPool(t, "let a = 2 + 1; let b = 1 + 2; else deny;", "2", "1")
	wantPool(t, "let a = 1 + (2 + 3); let b = 4; else deny;", "1", "2", "3", "4")
	wantPool(t, "let a = 3 * 2 + 1; let b = 00001; let c = 01 + 002; else deny;", "3", "2", "1")
	wantPool(t, `let a = {"b", "a"}; let b = {"a", "b", "a"}; let c = {"a"}; else grant {"b"};`, "{a,b}", "{a}", "{b}")
	// Values of different kinds that look alike.
	wantPool(t, `let a = 1; let b = true; let c = "1"; let d = {"1"}; else deny;`, "1", "true", `"1"`, "{1}")
	wantPool(t, `let a = 0; let b = false; let c = ""; let d = {}; else grant {};`, "0", "false", `""`, "{}")
	wantPool(t, `let a = {}; let b = ""; let c = false; let d = 0; else grant {};`, "{}", `""`, "false", "0")
	wantPool(t, `let a = "a"; let b = {"a"}; let c = "b"; let d = {"b"}; else grant {"a", "b"};`, `"a"`, "{a}", `"b"`, "{b}", "{a,b}")
	wantPool(t, `let a = {"ab"}; let b = {"a", "b"}; let c = "ab"; let d = {"a:b"}; else deny;`, "{ab}", "{a,b}", `"ab"`, "{a:b}")
	// What the forms push, at its place among what is written.
	wantPool(t, "let a = client == user and 1 < 2; else deny;", "1", "2", "false")
	wantPool(t, "let a = client == user or 1 < 2; else deny;", "true", "1", "2")
	wantPool(t, "let a = 1 < 2 and 3 < 4; let b = 5; else deny;", "1", "2", "3", "4", "false", "5")
	wantPool(t, "let a = 1 < 2 or 3 < 4; let b = 5; else deny;", "1", "2", "true", "3", "4", "5")
	wantPool(t, "let a = true and false; let b = true or false; else deny;", "true", "false")
	wantPool(t, "let a = false or true; let b = false and true; else deny;", "false", "true")
	wantPool(t, "let a = false; let b = 1 < 2 and 3 < 4; else deny;", "false", "1", "2", "3", "4")
	wantPool(t, "let a = 1 < 2 and 1 < 3 and 1 < 4; else deny;", "1", "2", "3", "false", "4")
	wantPool(t, "let a = 1 < 2 or 1 < 3 or 1 < 4; else deny;", "1", "2", "true", "3", "4")
	wantPool(t, "let a = 1 < 2 and (1 < 3 or 1 < 4); else deny;", "1", "2", "3", "true", "4", "false")
	wantPool(t, "let a = if 1 < 2 then 3 else 4; let b = 4; else grant if a < 5 then {} else asked;", "1", "2", "3", "4", "5", "{}")
}

// Numbers that differ in one byte alone, and numbers below 0, are not the same.
func TestPoolOfManyNumbers(t *testing.T) {
	var lines []line
	var want []impl.Value
	for shift := range 64 {
		for _, num := range []int64{1 << shift, -1 << shift, 1<<shift - 1} {
			lines = append(lines, let("v"+string(rune('a'+len(lines)/26))+string(rune('a'+len(lines)%26)), number(num)))
			poolPlace(&want, impl.Value{Kind: impl.TyInt, Num: num})
		}
	}
	typed := typedLines(append(lines, last(nil)))
	if got := impl.Compile(typed).Pool; !slices.EqualFunc(got, want, sameValue) {
		t.Errorf("the pool is %+v, want %+v", got, want)
	}
	checkCompiled(t, typed, plainRequest())
}

// Each operator on all of kidsToTry, held against the forms and the promises.
func TestCompileAllSmallTrees(t *testing.T) {
	requests := edgeRequests()
	for _, op := range operators() {
		for _, free := range allTypes {
			if !strings.Contains(typeRows[op], "T") && free != impl.TyBool {
				continue
			}
			var types []int
			for _, field := range strings.Fields(strings.Split(typeRows[op], "->")[0]) {
				typ := typeNames[field]
				if field == "T" {
					typ = free
				}
				types = append(types, typ)
			}
			eachKids(types, func(kids []*tree) {
				lines := append(letsToTry(), let("x", node(op, kids...)))
				lines = append(lines, when(node(impl.OpEq, letAt(8), letAt(8)), attr(5)), last(nil))
				typed := typedLines(lines)
				wantCompiled(t, typed, secondCompile(lines))
				checkCompiled(t, typed, requests[:3]...)
			})
		}
	}
}

func TestCompileManyPolicies(t *testing.T) {
	random := rand.New(rand.NewSource(90))
	kinds, codes := map[int]int{}, map[int]int{}
	for i := range 3000 {
		g := typedRandom{random: random}
		lines := g.lines(6, 5)
		if i%4 == 0 {
			lines = g.lines(30, 3)
		}
		typed := typedLines(lines)
		wantCompiled(t, typed, secondCompile(lines))
		wantCompiled(t, impl.Optimize(typed), secondCompile(secondOptimize(lines)))
		checkCompiled(t, typed, someRequest(random), someRequest(random), plainRequest())
		out := impl.Run(impl.Compile(typed), plainRequest()).Out
		kinds[out.Kind]++
		codes[out.Code]++
	}
	for _, kind := range []int{impl.OutDeny, impl.OutGrant, impl.OutError} {
		if kinds[kind] < 200 {
			t.Errorf("kinds that came about: %v", kinds)
		}
	}
	for _, code := range []int{impl.EvalOverflow, impl.EvalZero, impl.EvalWide} {
		if codes[code] < 10 {
			t.Errorf("errors that came about: %v", codes)
		}
	}
}

// manyChoices has as many different constants as a policy can come to: choices have
// the most leaves for their nodes, and each tree saves a node above.
func manyChoices() []line {
	num := int64(0)
	next := func() *tree { num++; return number(num) }
	var lines []line
	nodes := 0
	for nodes+10 <= maxNodes && len(lines) < maxStmts-1 {
		same := node(impl.OpEq, next(), next())
		lines = append(lines, when(node(impl.OpEq, next(), node(impl.OpIf, same, next(), next())), nil))
		nodes += 8
	}
	return append(lines, last(nil))
}

// rightDeep has all its left kids on the stack when the last leaf is pushed.
func rightDeep(depth int) *tree {
	t := attr(2)
	for range depth - 1 {
		t = node(impl.OpAdd, attr(3), t)
	}
	return t
}

func leftDeep(depth int) *tree {
	t := attr(2)
	for range depth - 1 {
		t = node(impl.OpAdd, t, attr(3))
	}
	return t
}

// wideAnds is a tree of so many nodes, an odd number, that is compiled to as many
// instructions as can be.
func wideAnds(n int) *tree {
	if n == 1 {
		return truth(true)
	}
	left := (n-1)/2 | 1
	return node(impl.OpAnd, wideAnds(left), wideAnds(n-1-left))
}

func TestCompileAtTheLimits(t *testing.T) {
	wide := numberedNames(strings.Repeat("n", maxName-4), maxSet)
	manyUses := []line{let("a", setOf(wide...))}
	for range maxStmts - 2 {
		manyUses = append(manyUses, when(node(impl.OpIn, attr(0), letAt(0)), letAt(0)))
	}
	for why, lines := range map[string][]line{
		"most lets":        manyLets(maxStmts),
		"most whens":       append(manyUses, last(setOf(wide...))),
		"most nodes":       {when(wideOf(maxNodes, truth(true)), nil), last(nil)},
		"deepest":          {when(deepOf(maxDepth, truth(true)), nil), last(nil)},
		"most constants":   manyChoices(),
		"to the right":     {let("a", rightDeep(maxDepth)), last(nil)},
		"to the left":      {let("a", leftDeep(maxDepth)), last(nil)},
		"most connectives": {when(wideAnds(maxNodes-1), nil), last(nil)},
	} {
		typed := typedLines(lines)
		if !impl.WellTyped(typed) {
			t.Errorf("%s: not well-typed", why)
		}
		wantCompiled(t, typed, secondCompile(lines))
		checkCompiled(t, typed, plainRequest())
	}
	if got := len(impl.Compile(typedLines(manyChoices())).Pool); got < 2000 {
		t.Errorf("%d constants at most", got)
	}
	if got := len(impl.Compile(typedLines([]line{when(wideAnds(maxNodes-1), nil), last(nil)})).Ins); got < 2*maxNodes-2 {
		t.Errorf("%d instructions at most", got)
	}
}

// As deep as an expression may be, so many values it needs, and never more.
func TestBoundOfCompiledCodes(t *testing.T) {
	for depth := 1; depth <= maxDepth; depth++ {
		right := impl.Compile(typedLines([]line{let("a", rightDeep(depth)), last(nil)}))
		if bound, wrong := impl.Verify(right); bound != depth || wrong != impl.VOK {
			t.Errorf("depth %d to the right: %d, %d", depth, bound, wrong)
		}
		left := impl.Compile(typedLines([]line{let("a", leftDeep(depth)), last(nil)}))
		if bound, wrong := impl.Verify(left); bound != min(depth, 2) || wrong != impl.VOK {
			t.Errorf("depth %d to the left: %d, %d", depth, bound, wrong)
		}
	}
}

func TestCompileWhatIsNotWellTyped(t *testing.T) {
	for why, typed := range wrongTyped() {
		if got := impl.Compile(typed); !isEmptyCode(got) {
			t.Errorf("%s: %+v", why, got)
		}
	}
}

func TestCompileOfWhatIsRead(t *testing.T) {
	random := rand.New(rand.NewSource(91))
	for range 2000 {
		g := typedRandom{random: random, written: true}
		lines := g.lines(5, 4)
		text := printedLines(written(lines))
		if len(text) > maxText {
			continue
		}
		wantCompiled(t, mustLoad(t, text), secondCompile(lines))
	}
}
