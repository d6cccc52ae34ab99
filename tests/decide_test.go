package tests

import (
	"maps"
	"math"
	"math/big"
	"math/rand"
	"slices"
	"strings"
	"testing"

	"loop.example/s01308/impl"
)

func sameOutcome(a, b impl.Outcome) bool {
	return a.Kind == b.Kind && a.Code == b.Code && slices.Equal(a.Scopes, b.Scopes)
}

func denied() impl.Outcome { return impl.Outcome{Kind: impl.OutDeny} }

func granted(names ...string) impl.Outcome {
	return impl.Outcome{Kind: impl.OutGrant, Scopes: names}
}

func failed(code int) impl.Outcome { return impl.Outcome{Kind: impl.OutError, Code: code} }

func wantDecision(t *testing.T, typed impl.Typed, r impl.Request, want impl.Outcome) {
	t.Helper()
	if got := impl.Decide(typed, r); !sameOutcome(got, want) {
		t.Errorf("Decide(%+v, %+v) = %+v, want %+v", typed, r, got, want)
	}
}

// stop is the error with which an evaluation ends.
type stop int

// secondDecider evaluates once more what 4.2 says: on the places of the nodes, with
// numbers without bounds, with maps for sets, and with a panic for an error.
type secondDecider struct {
	t    impl.Typed
	r    impl.Request
	lets []any
}

func secondDecide(t impl.Typed, r impl.Request) (out impl.Outcome) {
	defer func() {
		switch x := recover().(type) {
		case nil:
		case stop:
			out = failed(int(x))
		default:
			panic(x)
		}
	}()
	d := secondDecider{t: t, r: r}
	for _, s := range t.Stmts {
		if s.Kind == impl.SLet {
			d.lets = append(d.lets, d.eval(s.Cond))
			continue
		}
		if s.Kind == impl.SWhen && d.eval(s.Cond) == false {
			continue
		}
		if s.Grant == -1 {
			return denied()
		}
		return granted(slices.Sorted(maps.Keys(d.eval(s.Grant).(map[string]bool)))...)
	}
	panic("no decision")
}

func held(names []string) map[string]bool {
	out := map[string]bool{}
	for _, name := range names {
		out[name] = true
	}
	return out
}

func (d *secondDecider) eval(place int) any {
	n := d.t.Nodes[place]
	switch n.Op {
	case impl.OpInt:
		return big.NewInt(n.Num)
	case impl.OpText:
		return n.Text
	case impl.OpBool:
		return n.Num == 1
	case impl.OpSet:
		return held(n.Names)
	case impl.OpLet:
		return d.lets[n.Num]
	case impl.OpAttr:
		return []any{
			d.r.Client, d.r.User, big.NewInt(d.r.Level), big.NewInt(d.r.Now), held(d.r.Asked), held(d.r.Agreed),
		}[n.Num]
	case impl.OpAnd:
		return d.eval(n.Kids[0]).(bool) && d.eval(n.Kids[1]).(bool)
	case impl.OpOr:
		return d.eval(n.Kids[0]).(bool) || d.eval(n.Kids[1]).(bool)
	case impl.OpIf:
		if d.eval(n.Kids[0]).(bool) {
			return d.eval(n.Kids[1])
		}
		return d.eval(n.Kids[2])
	}
	x := d.eval(n.Kids[0])
	switch n.Op {
	case impl.OpNot:
		return !x.(bool)
	case impl.OpSize:
		return big.NewInt(int64(len(x.(map[string]bool))))
	case impl.OpNeg:
		return fitting(new(big.Int).Neg(x.(*big.Int)))
	}
	return operate(n.Op, x, d.eval(n.Kids[1]))
}

func fitting(n *big.Int) *big.Int {
	if !n.IsInt64() {
		panic(stop(impl.EvalOverflow))
	}
	return n
}

func operate(op int, x, y any) any {
	switch op {
	case impl.OpEq:
		return equalValues(x, y)
	case impl.OpNe:
		return !equalValues(x, y)
	case impl.OpIn:
		return y.(map[string]bool)[x.(string)]
	}
	if a, ok := x.(map[string]bool); ok {
		return operateSets(op, a, y.(map[string]bool))
	}
	a, b := x.(*big.Int), y.(*big.Int)
	switch op {
	case impl.OpLess:
		return a.Cmp(b) < 0
	case impl.OpMost:
		return a.Cmp(b) <= 0
	case impl.OpAdd:
		return fitting(new(big.Int).Add(a, b))
	case impl.OpSub:
		return fitting(new(big.Int).Sub(a, b))
	case impl.OpMul:
		return fitting(new(big.Int).Mul(a, b))
	}
	if b.Sign() == 0 {
		panic(stop(impl.EvalZero))
	}
	if op == impl.OpDiv {
		return fitting(new(big.Int).Quo(a, b))
	}
	return fitting(new(big.Int).Rem(a, b))
}

func operateSets(op int, a, b map[string]bool) any {
	out := map[string]bool{}
	within := true
	for name := range a {
		within = within && b[name]
		if op == impl.OpUnion || (op == impl.OpMeet) == b[name] {
			out[name] = true
		}
	}
	switch op {
	case impl.OpWithin:
		return within
	case impl.OpUnion:
		maps.Copy(out, b)
		if len(out) > maxSet {
			panic(stop(impl.EvalWide))
		}
	}
	return out
}

func equalValues(x, y any) bool {
	switch x := x.(type) {
	case *big.Int:
		return x.Cmp(y.(*big.Int)) == 0
	case map[string]bool:
		return maps.Equal(x, y.(map[string]bool))
	}
	return x == y
}

// The request is that of plainRequest: app, ann, 2, 100, {a, b}, {b, c}.
func TestDecideExpressionsByHand(t *testing.T) {
	for expression, want := range map[string]bool{
		`client == "app"`: true, `client == user`: false, `user == "ann"`: true, `client != user`: true,
		`client == ""`: false, `"" == ""`: true, `level == 2`: true, `now == 100`: true, `level != 2`: false,
		`level < now`: true, `level < 2`: false, `now < level`: false, `level <= 2`: true, `level <= 1`: false, `1 <= level`: true,
		`asked == {"b", "a"}`: true, `agreed == {"b", "c"}`: true, `asked == agreed`: false, `asked != agreed`: true,
		`{} == {}`: true, `asked == {"a"}`: false, `asked == {"a", "c"}`: false, `true == true`: true, `true == false`: false,
		`true != false`: true, `false != false`: false, `not true`: false, `not false`: true,
		`size(asked) == 2`: true, `size({}) == 0`: true, `size(asked | agreed) == 3`: true,
		`"a" in asked`: true, `"c" in asked`: false, `"" in asked`: false, `client in {"app"}`: true, `"a" in {}`: false,
		`asked within agreed`: false, `asked & agreed within asked`: true, `{} within {}`: true, `asked within asked`: true,
		`{"a"} within asked`: true, `asked within {"a"}`: false,
		`asked | agreed == {"a", "b", "c"}`: true, `asked & agreed == {"b"}`: true, `asked \ agreed == {"a"}`: true,
		`agreed \ asked == {"c"}`: true, `asked & {} == {}`: true, `asked | {} == asked`: true,
		`-level == 0 - 2`: true, `level + 3 == 5`: true, `level - 3 == -1`: true, `level * 3 == 6`: true,
		`7 / level == 3`: true, `-7 / level == -3`: true, `7 % level == 1`: true, `-7 % level == -1`: true, `7 % -level == 1`: true,
		`true and true`: true, `true and false`: false, `false and true`: false, `false and false`: false,
		`true or true`: true, `true or false`: true, `false or true`: true, `false or false`: false,
		`if level == 2 then true else false`: true, `if level == 3 then true else false`: false,
		`(if true then 1 else 2) == 1`: true, `(if false then 1 else 2) == 2`: true,
		`-(0 - 9223372036854775807) == 9223372036854775807`:                true,
		`(0 - 9223372036854775807 - 1) % -1 == 0`:                          true,
		`9223372036854775807 - 1 < 9223372036854775807`:                    true,
		`0 - 9223372036854775807 - 1 < 0 - 9223372036854775807`:            true,
		`9223372036854775807 * -1 == -9223372036854775807`:                 true,
		`(0 - 9223372036854775807 - 1) / 1 <= 0 - 9223372036854775807 - 1`: true,
	} {
		outcome := granted("no")
		if want {
			outcome = granted("yes")
		}
		text := `when ` + expression + ` => grant {"yes"}; else grant {"no"};`
		wantDecision(t, mustLoad(t, text), plainRequest(), outcome)
		text = `let v = ` + expression + `; else grant if v then {"yes"} else {"no"};`
		wantDecision(t, mustLoad(t, text), plainRequest(), outcome)
	}
}

const (
	overflow = "9223372036854775807 + 1"
	zero     = "1 / 0"
)

// wideUnion gives a text of a union that has n names.
func wideUnion(n int) string {
	names := numberedNames("n", n)
	half := n / 2
	return `({"` + strings.Join(names[:half+1], `","`) + `"} | {"` + strings.Join(names[half:], `","`) + `"})`
}

// Which error it is tells what was evaluated first; no error, what was not at all.
func TestDecideErrors(t *testing.T) {
	wide := "size(" + wideUnion(maxSet+1) + ")"
	for expression, want := range map[string]int{
		overflow + " == 1": impl.EvalOverflow, zero + " == 1": impl.EvalZero, wide + " == 1": impl.EvalWide,
		"1 % 0 == 1": impl.EvalZero, "0 / 0 == 1": impl.EvalZero, "0 % 0 == 1": impl.EvalZero,
		"level / (level - 2) == 1": impl.EvalZero, "level % (2 - level) == 1": impl.EvalZero,
		"0 - 9223372036854775807 - 2 == 1":            impl.EvalOverflow,
		"9223372036854775807 * 2 == 1":                impl.EvalOverflow,
		"9223372036854775807 - -1 == 1":               impl.EvalOverflow,
		"-(0 - 9223372036854775807 - 1) == 1":         impl.EvalOverflow,
		"(0 - 9223372036854775807 - 1) / -1 == 1":     impl.EvalOverflow,
		"9223372036854775807 + (level - 1) == 1":      impl.EvalOverflow,
		"(0 - 9223372036854775807 - 1) * -1 == 1":     impl.EvalOverflow,
		"(0 - 9223372036854775807 - 1) % (1 - 1) < 1": impl.EvalZero,
		// The left kid's error, wherever the right one has another.
		zero + " == " + overflow: impl.EvalZero, overflow + " == " + zero: impl.EvalOverflow,
		wide + " < " + zero: impl.EvalWide, zero + " <= " + wide: impl.EvalZero,
		"(" + overflow + ") + 1 / 0 == 1": impl.EvalOverflow, "1 / 0 + (" + overflow + ") == 1": impl.EvalZero,
		"(" + zero + ") / 0 == 1": impl.EvalZero, "(" + overflow + ") / 0 == 1": impl.EvalOverflow,
		"1 / (0 * (" + overflow + ")) == 1": impl.EvalOverflow,
		// An error alone on one side.
		"1 == " + zero: impl.EvalZero, "1 + (" + zero + ") == 1": impl.EvalZero, "-(" + zero + ") == 1": impl.EvalZero,
		"not (" + zero + " == 1)":                              impl.EvalZero,
		"asked within " + wideUnion(maxSet+1):                  impl.EvalWide,
		wideUnion(maxSet+1) + " within asked":                  impl.EvalWide,
		"\"a\" in " + wideUnion(maxSet+1):                      impl.EvalWide,
		"asked & " + wideUnion(maxSet+1) + " == {}":            impl.EvalWide,
		"{} \\ " + wideUnion(maxSet+1) + " == {}":              impl.EvalWide,
		"size(asked & " + wideUnion(maxSet+1) + ") == " + zero: impl.EvalWide,
		// Connectives and choices that come to the error.
		"true and " + zero + " == 1": impl.EvalZero, "false or " + zero + " == 1": impl.EvalZero,
		zero + " == 1 and false": impl.EvalZero, zero + " == 1 or true": impl.EvalZero,
		zero + " == 1 and " + overflow + " == 1": impl.EvalZero, overflow + " == 1 or " + zero + " == 1": impl.EvalOverflow,
		"if " + zero + " == 1 then true else true":                               impl.EvalZero,
		"if true then " + zero + " == 1 else true":                               impl.EvalZero,
		"if false then true else " + zero + " == 1":                              impl.EvalZero,
		"if " + zero + " == 1 then " + overflow + " == 1 else " + wide + " == 1": impl.EvalZero,
		// Those that do not.
		"false and " + zero + " == 1": 0, "true or " + zero + " == 1": 0,
		"level == 3 and " + zero + " == 1": 0, "level == 2 or " + overflow + " == 1": 0,
		"if true then true else " + zero + " == 1": 0, "if false then " + zero + " == 1 else true": 0,
		"false and (" + zero + " == 1 and " + overflow + " == 1)": 0, "not (true or " + zero + " == 1)": 0,
		"(0 - 9223372036854775807 - 1) % -1 == 0": 0, "9223372036854775807 - 0 == 1": 0,
		"size(" + wideUnion(maxSet) + ") == 64": 0,
	} {
		want := failed(want)
		if want.Code == impl.EvalOK {
			want = impl.Outcome{Kind: impl.OutGrant}
		}
		// Whatever the truth is, what is granted is the same.
		wantDecision(t, mustLoad(t, "when "+expression+" => grant {}; else grant {};"), plainRequest(), want)
		wantDecision(t, mustLoad(t, "let v = "+expression+"; else grant {};"), plainRequest(), want)
		wantDecision(t, mustLoad(t, "else grant if "+expression+" then {} else {};"), plainRequest(), want)
	}
}

func TestDecideStatements(t *testing.T) {
	for text, want := range map[string]impl.Outcome{
		"else deny;":                                   denied(),
		"else grant {};":                               granted(),
		`else grant {"b", "a"};`:                       granted("a", "b"),
		"when true => deny; else grant asked;":         denied(),
		"when false => deny; else grant asked;":        granted("a", "b"),
		"when true => grant agreed; else grant asked;": granted("b", "c"),
		"when level == 1 => deny; when level == 2 => grant asked; else deny;": granted("a", "b"),
		"when level == 2 => grant asked; when level == 2 => deny; else deny;": granted("a", "b"),
		"when level == 3 => grant asked; when level == 4 => deny; else deny;": denied(),
		"let s = asked; when level == 2 => grant s | agreed; else deny;":      granted("a", "b", "c"),
		"let a = 1 / 0; else deny;":                                                        failed(impl.EvalZero),
		"let a = 1 / 0; when true => deny; else deny;":                                     failed(impl.EvalZero),
		"when true => deny; let a = 1 / 0; else deny;":                                     denied(),
		"when false => grant if 1 / 0 == 1 then {} else {}; else deny;":                    denied(),
		"when true => grant if 1 / 0 == 1 then {} else {}; else deny;":                     failed(impl.EvalZero),
		"when 1 / 0 == 1 => deny; else deny;":                                              failed(impl.EvalZero),
		"when true => deny; when 1 / 0 == 1 => deny; else deny;":                           denied(),
		"let a = 1; let b = a + 1; let c = b + a; when c == 3 => deny; else grant {};":     denied(),
		"let a = true; let b = not a; when b => deny; when a => grant asked; else deny;":   granted("a", "b"),
		"let a = level; let b = now; when a == 2 and b == 100 => grant agreed; else deny;": granted("b", "c"),
		"else grant if client == user then asked else agreed;":                             granted("b", "c"),
		"else grant " + wideUnion(maxSet) + ";":                                            granted(numberedNames("n", maxSet)...),
		"else grant " + wideUnion(maxSet+1) + ";":                                          failed(impl.EvalWide),
	} {
		wantDecision(t, mustLoad(t, text), plainRequest(), want)
	}
}

// What cannot be written can be typed: negative numbers as such.
func TestDecideNegativeNumbers(t *testing.T) {
	least := number(math.MinInt64)
	for _, x := range []struct {
		expression *tree
		want       impl.Outcome
	}{
		{node(impl.OpEq, node(impl.OpNeg, number(-3)), number(3)), granted()},
		{node(impl.OpEq, node(impl.OpNeg, least), number(0)), failed(impl.EvalOverflow)},
		{node(impl.OpEq, node(impl.OpDiv, least, number(-1)), least), failed(impl.EvalOverflow)},
		{node(impl.OpEq, node(impl.OpMod, least, number(-1)), number(0)), granted()},
		{node(impl.OpEq, node(impl.OpMul, least, number(-1)), least), failed(impl.EvalOverflow)},
		{node(impl.OpEq, node(impl.OpMul, number(-1), least), least), failed(impl.EvalOverflow)},
		{node(impl.OpEq, node(impl.OpMul, least, number(1)), least), granted()},
		{node(impl.OpEq, node(impl.OpAdd, least, number(-1)), least), failed(impl.EvalOverflow)},
		{node(impl.OpEq, node(impl.OpSub, number(-1), least), number(math.MaxInt64)), granted()},
		{node(impl.OpEq, node(impl.OpSub, number(0), least), least), failed(impl.EvalOverflow)},
		{node(impl.OpEq, node(impl.OpDiv, least, number(0)), least), failed(impl.EvalZero)},
		{node(impl.OpLess, least, number(math.MaxInt64)), granted()},
		{node(impl.OpMost, number(math.MaxInt64), least), denied()},
		{node(impl.OpEq, node(impl.OpMod, number(-7), number(3)), number(-1)), granted()},
		{node(impl.OpEq, node(impl.OpDiv, number(-7), number(2)), number(-3)), granted()},
	} {
		wantDecision(t, typedLines([]line{when(x.expression, setOf()), last(nil)}), plainRequest(), x.want)
	}
	r := plainRequest()
	r.Level, r.Now = math.MinInt64, -1
	wantDecision(t, mustLoad(t, "when level / now == 0 => deny; else deny;"), r, failed(impl.EvalOverflow))
	wantDecision(t, mustLoad(t, "when level % now == 0 => grant {}; else deny;"), r, granted())
	wantDecision(t, mustLoad(t, "when -level == 0 => deny; else deny;"), r, failed(impl.EvalOverflow))
	wantDecision(t, mustLoad(t, "when level + now == 0 => deny; else deny;"), r, failed(impl.EvalOverflow))
}

// Unions of a request's own sets, at MaxSet and one beyond.
func TestDecideUnionsOfRequests(t *testing.T) {
	typed := mustLoad(t, "else grant asked | agreed;")
	for _, x := range []struct{ asked, agreed []string }{
		{numberedNames("n", maxSet), nil},
		{nil, numberedNames("n", maxSet)},
		{numberedNames("n", maxSet), numberedNames("n", maxSet)},
		{numberedNames("n", maxSet-1), []string{"z"}},
		{numberedNames("n", maxSet), []string{"z"}},
		{[]string{"a"}, numberedNames("n", maxSet)},
		{numberedNames("n", maxSet), numberedNames("m", maxSet)},
	} {
		r := plainRequest()
		r.Asked, r.Agreed = x.asked, x.agreed
		all := distinct(append(slices.Clone(x.asked), x.agreed...))
		want := granted(all...)
		if len(all) > maxSet {
			want = failed(impl.EvalWide)
		}
		wantDecision(t, typed, r, want)
	}
}

func wrongRequests() map[string]impl.Request {
	wrong := map[string]impl.Request{"nothing": {}}
	for _, name := range []string{"", "A", "a b", "a,b", strings.Repeat("a", maxName+1), "a\n", "\xff"} {
		r := plainRequest()
		r.Client = name
		wrong["client "+name] = r
		r = plainRequest()
		r.User = name
		wrong["user "+name] = r
	}
	for why, names := range wrongSets() {
		r := plainRequest()
		r.Asked = names
		wrong["asked: "+why] = r
		r = plainRequest()
		r.Agreed = names
		wrong["agreed: "+why] = r
	}
	return wrong
}

func TestDecideWrongArguments(t *testing.T) {
	bad := impl.Outcome{Kind: impl.OutBad}
	for _, text := range []string{"else deny;", "else grant asked;", "let a = 1 / 0; else grant agreed;"} {
		typed := mustLoad(t, text)
		for why, r := range wrongRequests() {
			if got := impl.Decide(typed, r); !sameOutcome(got, bad) {
				t.Errorf("%s: %+v", why, got)
			}
		}
	}
	for why, typed := range wrongTyped() {
		if got := impl.Decide(typed, plainRequest()); !sameOutcome(got, bad) {
			t.Errorf("%s: %+v", why, got)
		}
	}
	if got := impl.Decide(impl.Typed{}, impl.Request{}); !sameOutcome(got, bad) {
		t.Errorf("nothing about nothing: %+v", got)
	}
}

// Level and Now of a request may be any number.
func TestDecideAnyLevelAndTime(t *testing.T) {
	typed := mustLoad(t, "when level < now => deny; else grant asked;")
	for _, level := range someNumbers {
		for _, now := range someNumbers {
			r := plainRequest()
			r.Level, r.Now = level, now
			want := granted("a", "b")
			if level < now {
				want = denied()
			}
			wantDecision(t, typed, r, want)
		}
	}
}

func TestDecideManyPolicies(t *testing.T) {
	random := rand.New(rand.NewSource(74))
	kinds, codes := map[int]int{}, map[int]int{}
	for range 6000 {
		g := typedRandom{random: random}
		typed := typedLines(g.lines(5, 5))
		for range 3 {
			r := someRequest(random)
			want := secondDecide(typed, r)
			if got := impl.Decide(typed, r); !sameOutcome(got, want) {
				t.Fatalf("Decide(%+v, %+v) = %+v, want %+v", typed, r, got, want)
			}
			kinds[want.Kind]++
			codes[want.Code]++
		}
	}
	for _, kind := range []int{impl.OutDeny, impl.OutGrant, impl.OutError} {
		if kinds[kind] < 1000 {
			t.Errorf("kinds that came about: %v", kinds)
		}
	}
	for _, code := range []int{impl.EvalOverflow, impl.EvalZero, impl.EvalWide} {
		if codes[code] < 50 {
			t.Errorf("errors that came about: %v", codes)
		}
	}
}

func TestDecideAtTheLimits(t *testing.T) {
	r := plainRequest()
	for _, lines := range [][]line{
		manyLets(maxStmts),
		{when(wideOf(maxNodes, truth(false)), nil), last(nil)},
		{when(deepOf(maxDepth, truth(true)), setOf("a")), last(nil)},
		{let("a", setOf(numberedNames("n", maxSet)...)), last(node(impl.OpUnion, letAt(0), letAt(0)))},
	} {
		typed := typedLines(lines)
		wantDecision(t, typed, r, secondDecide(typed, r))
	}
}
