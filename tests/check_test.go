package tests

import (
	"math"
	"math/rand"
	"slices"
	"strconv"
	"strings"
	"testing"

	"loop.example/s01308/impl"
)

func TestNumbersOfTypesAndOutcomes(t *testing.T) {
	got := []int{
		impl.TyBool, impl.TyInt, impl.TyText, impl.TySet,
		impl.OutDeny, impl.OutGrant, impl.OutError, impl.OutBad,
		impl.FName, impl.FAgain, impl.FType, impl.FShape,
	}
	if want := []int{1, 2, 3, 4, 1, 2, 3, 4, 7, 8, 9, 10}; !slices.Equal(got, want) {
		t.Errorf("codes %v, want %v", got, want)
	}
}

func wantCheckFault(t *testing.T, p impl.Policy, want impl.Fault) {
	t.Helper()
	typed, fault := impl.Check(p)
	if fault != want || !isEmptyTyped(typed) {
		t.Fatalf("Check(%q) = %+v, %+v, want %+v", impl.Print(p), typed, fault, want)
	}
}

func wantChecked(t *testing.T, p impl.Policy, want impl.Typed) {
	t.Helper()
	typed, fault := impl.Check(p)
	if fault != (impl.Fault{}) || !sameTyped(typed, want) {
		t.Fatalf("Check(%q) = %+v, %+v, want %+v", impl.Print(p), typed, fault, want)
	}
	if !impl.WellTyped(typed) {
		t.Fatalf("Check(%q) = %+v, which is not well-typed", impl.Print(p), typed)
	}
}

// checkLikeSecond holds Check against secondCheck, and P6 against both.
func checkLikeSecond(t *testing.T, p impl.Policy) impl.Fault {
	t.Helper()
	want, fault := secondCheck(p)
	if fault != (impl.Fault{}) {
		wantCheckFault(t, p, fault)
	} else {
		wantChecked(t, p, want)
	}
	return fault
}

func wantLoadFault(t *testing.T, text string, want impl.Fault) {
	t.Helper()
	typed, fault := impl.Load(text)
	if fault != want || !isEmptyTyped(typed) {
		t.Errorf("Load(%q) = %+v, %+v, want %+v", text, typed, fault, want)
	}
}

// wantLoadFaultAt marks the fault's place in the text by a caret, which is left out.
func wantLoadFaultAt(t *testing.T, marked string, code int) {
	t.Helper()
	at := strings.IndexByte(marked, '^')
	wantLoadFault(t, marked[:at]+marked[at+1:], impl.Fault{Code: code, At: at})
}

func mustLoad(t *testing.T, text string) impl.Typed {
	t.Helper()
	typed, fault := impl.Load(text)
	if fault != (impl.Fault{}) {
		t.Fatalf("Load(%q): %+v", text, fault)
	}
	return typed
}

// samples gives leaves of a type: a constant, an attribute, a let.
func samples(typ int) []*tree {
	switch typ {
	case impl.TyBool:
		return []*tree{truth(true), named("vb")}
	case impl.TyInt:
		return []*tree{number(7), named("level"), named("now"), named("vi")}
	case impl.TyText:
		return []*tree{quoted("t"), named("client"), named("user"), named("vt")}
	}
	return []*tree{setOf("s"), named("asked"), named("agreed"), named("vs")}
}

// lettings declares a let of each type.
func lettings() []line {
	return []line{let("vb", truth(false)), let("vi", number(1)), let("vt", quoted("x")), let("vs", setOf())}
}

// Each operator with kids of all types: it fits exactly where its row says so.
func TestCheckEachRowWithAllTypes(t *testing.T) {
	fits := 0
	for _, op := range operators() {
		for mix := range int(math.Pow(4, float64(kidsOf(op)))) {
			top := node(op)
			var types []int
			for rest := mix; len(types) < kidsOf(op); rest /= 4 {
				types = append(types, allTypes[rest%4])
			}
			for i, typ := range types {
				of := samples(typ)
				top.kids = append(top.kids, of[(mix+i)%len(of)])
			}
			p := flatten(append(lettings(), let("x", top), last(nil)))
			want := rowType(op, types)
			if want == 0 {
				wantCheckFault(t, p, impl.Fault{Code: impl.FType, At: len(p.Nodes) - 1})
				continue
			}
			fits++
			typed, fault := impl.Check(p)
			if fault != (impl.Fault{}) || typed.Types[len(typed.Types)-1] != want {
				t.Errorf("%q: %+v, %+v", impl.Print(p), typed, fault)
			}
			checkLikeSecond(t, p)
		}
	}
	// Three of one kid, 14 of two fixed types, two of any one type, and the if.
	if fits != 3+14+2*4+4 {
		t.Errorf("%d fit", fits)
	}
}

// Each kid of a wrong type in turn, written by hand.
func TestCheckWrongKidsByHand(t *testing.T) {
	for _, marked := range []string{
		"^-true", `^-"a"`, "^-asked", "^not 1", `^not "a"`, "^not {}", "^size(1)", "^size(true)", "^size(client)",
		"1 ^+ true", "asked ^+ 1", `1 ^- "a"`, "true ^- 1", "1 ^* {}", `"a" ^* 1`, "1 ^/ false", "user ^/ 1", "1 ^% client",
		"agreed ^% 1", "asked ^| 1", "1 ^| asked", "asked ^& true", "client ^& agreed", `asked ^\ "a"`, `true ^\ agreed`,
		"1 ^== true", "client ^== asked", "{} ^== 1", "true ^== user", "1 ^!= client", "asked ^!= now", "true ^!= 1",
		"1 ^< true", "asked ^< 1", "client ^< user", "{} ^< {}", "1 ^<= client", "true ^<= 1", "true ^<= false",
		"1 ^in asked", "asked ^in asked", "true ^in {}", "client ^in user", `"a" ^in 1`, `"a" ^in true`,
		"1 ^within asked", "asked ^within 1", `"a" ^within asked`, "true ^within false",
		"true ^and 1", "1 ^and true", "asked ^and true", "true ^or client", "{} ^or false",
		"^if 1 then 2 else 3", "^if asked then 2 else 3", "^if client then 2 else 3", "^if true then 1 else true",
		"^if true then asked else client", "^if false then user else 1", "^if true then true else {}",
	} {
		wantLoadFaultAt(t, "let x = "+marked+"; else deny;", impl.FType)
		wantLoadFaultAt(t, "when ("+marked+") == ghost => deny; else deny;", impl.FType)
		wantLoadFaultAt(t, "else grant "+marked+";", impl.FType)
	}
}

// Statements with two things wrong, or with one that stands behind what is right.
func TestLoadFaultsInTheirOrder(t *testing.T) {
	for _, x := range []struct {
		marked string
		code   int
	}{
		{"when ^x => deny; else deny;", impl.FName},
		{"when ^1 => deny; else deny;", impl.FType},
		{"when ^asked => grant asked; else deny;", impl.FType},
		{"when ^client => grant asked; else deny;", impl.FType},
		{"else grant ^level;", impl.FType},
		{"else grant ^true;", impl.FType},
		{"else grant ^client;", impl.FType},
		{"when true => grant ^level; else deny;", impl.FType},
		// Names and types in one tree: the node that stands first.
		{"when ^x == (1 + true) => deny; else deny;", impl.FName},
		{"when (1 ^+ true) == x => deny; else deny;", impl.FType},
		{"when 1 + ^x => deny; else deny;", impl.FName},
		{"when not ^x => deny; else deny;", impl.FName},
		{"when not (^-true) => deny; else deny;", impl.FType},
		{"when if ^x then 1 else true => deny; else deny;", impl.FName},
		{"when if 1 then ^x else true => deny; else deny;", impl.FName},
		{"when if 1 then true else ^x => deny; else deny;", impl.FName},
		{"when (^-true) + (-false) == 1 => deny; else deny;", impl.FType},
		// Nodes of Cond ahead of Cond as a whole, which is ahead of Grant.
		{"when 1 ^+ true => grant x; else deny;", impl.FType},
		{"when 1 ^+ 2 => grant x; else deny;", impl.FType},
		{"when ^1 => grant x; else deny;", impl.FType},
		{"when ^1 => grant 1; else deny;", impl.FType},
		{"when true => grant ^x; else deny;", impl.FName},
		{"when true => grant size(1 ^+ true); else deny;", impl.FType},
		{"when true => grant ^size(asked); else deny;", impl.FType},
		{"when true => grant ^size(asked); else grant 1;", impl.FType},
		{"when false => grant asked; else grant ^1;", impl.FType},
		// Lets: the nodes ahead of the name.
		{"let now = ^1; else deny;", impl.FAgain},
		{"let client = ^1; else deny;", impl.FAgain},
		{"let user = ^1; else deny;", impl.FAgain},
		{"let level = ^1; else deny;", impl.FAgain},
		{"let asked = ^{}; else deny;", impl.FAgain},
		{"let agreed = ^{}; else deny;", impl.FAgain},
		{"let now = 1 ^+ 2; else deny;", impl.FAgain},
		{"let now = 1 ^+ true; else deny;", impl.FType},
		{"let now = ^x; else deny;", impl.FName},
		{"let now = now ^+ 1; else deny;", impl.FAgain},
		{"let a = 1; let a = ^2; else deny;", impl.FAgain},
		{"let a = 1; let a = ^true; else deny;", impl.FAgain},
		{"let a = 1; let a = ^a; else deny;", impl.FAgain},
		{"let a = 1; let b = 2; let a = a ^+ b; else deny;", impl.FAgain},
		{"let a = 1; let a = ^b; let b = 1; else deny;", impl.FName},
		{"let a = ^a; else deny;", impl.FName},
		{"let a = 1 + ^a; else deny;", impl.FName},
		{"let a = ^b; let b = 1; else deny;", impl.FName},
		{"when ^a => deny; let a = true; else deny;", impl.FName},
		{"when true => grant ^a; let a = asked; else deny;", impl.FName},
		{"let a = 1; when ^a => deny; else deny;", impl.FType},
		{"let a = true; when a => grant ^a; else deny;", impl.FType},
		// Statements in their order.
		{"let a = ^x; let now = 1; else grant 1;", impl.FName},
		{"let now = ^1; let a = x; else grant 1;", impl.FAgain},
		{"when ^1 => deny; let a = x; else grant 1;", impl.FType},
		{"let a = 1; let b = a; let c = b; when c + ^d => deny; else deny;", impl.FName},
	} {
		wantLoadFaultAt(t, x.marked, x.code)
	}
}

// Parse's faults come first, whatever a check would say, and are told as they are.
func TestLoadFaultsOfParse(t *testing.T) {
	deep := strings.Repeat("not ", maxDepth) + "true"
	wide := `{"` + strings.Join(numberedNames("n", maxSet+1), `", "`) + `"}`
	for text, want := range map[string]impl.Fault{
		"":                              {Code: impl.FSyntax, At: 0},
		"else deny":                     {Code: impl.FSyntax, At: 9},
		"when x => deny; else deny":     {Code: impl.FSyntax, At: 25},
		"when x => deny; else deny; A":  {Code: impl.FByte, At: 27},
		"when x => deny; else deny; 1a": {Code: impl.FToken, At: 27},
		"when x => deny; when " + deep + " => deny; else deny;": {Code: impl.FDepth, At: 16},
		"when x => grant " + wide + "; else deny;":              {Code: impl.FLimit, At: 16},
		strings.Repeat("x", maxText+1):                          {Code: impl.FSize},
	} {
		wantLoadFault(t, text, want)
	}
}

func TestLoadOfEachAttribute(t *testing.T) {
	for num, name := range attributeNames {
		typed := mustLoad(t, "let x = "+name+"; else deny;")
		n := typed.Nodes[0]
		if !sameNode(n, impl.Node{Op: impl.OpAttr, Num: int64(num)}) || typed.Types[0] != attributeTypes[num] {
			t.Errorf("%s: %+v", name, typed)
		}
	}
	for _, name := range []string{"clients", "clien", "levels", "ask", "time", "scopes"} {
		wantLoadFault(t, "let x = "+name+"; else deny;", impl.Fault{Code: impl.FName, At: 8})
	}
}

func TestCheckByHand(t *testing.T) {
	typed := mustLoad(t, `let a = level; let b = {"r"}; when a < 3 and "r" in b => grant asked \ b; else deny;`)
	want := impl.Typed{
		Nodes: []impl.Node{
			{Op: impl.OpAttr, Num: 2},
			{Op: impl.OpSet, Names: []string{"r"}},
			{Op: impl.OpLet},
			{Op: impl.OpInt, Num: 3},
			{Op: impl.OpLess, Kids: []int{2, 3}},
			{Op: impl.OpText, Text: "r"},
			{Op: impl.OpLet, Num: 1},
			{Op: impl.OpIn, Kids: []int{5, 6}},
			{Op: impl.OpAnd, Kids: []int{4, 7}},
			{Op: impl.OpAttr, Num: 4},
			{Op: impl.OpLet, Num: 1},
			{Op: impl.OpMinus, Kids: []int{9, 10}},
		},
		Stmts: []impl.Stmt{
			{Kind: impl.SLet, Name: "a", Cond: 0, Grant: -1},
			{Kind: impl.SLet, Name: "b", Cond: 1, Grant: -1},
			{Kind: impl.SWhen, Cond: 8, Grant: 11},
			{Kind: impl.SElse, Cond: -1, Grant: -1},
		},
		Types: []int{
			impl.TyInt, impl.TySet, impl.TyInt, impl.TyInt, impl.TyBool, impl.TyText, impl.TySet, impl.TyBool,
			impl.TyBool, impl.TySet, impl.TySet, impl.TySet,
		},
	}
	if !sameTyped(typed, want) {
		t.Errorf("%+v, want %+v", typed, want)
	}
}

func TestCheckOfWhatIsNotValid(t *testing.T) {
	for why, p := range wrongPolicies() {
		typed, fault := impl.Check(p)
		if fault != (impl.Fault{Code: impl.FShape}) || !isEmptyTyped(typed) {
			t.Errorf("%s: %+v, %+v", why, typed, fault)
		}
	}
	// A valid policy holds no negative number and no resolved name, a Typed may.
	for _, leaf := range []*tree{number(-1), number(math.MinInt64), attr(4), letAt(0)} {
		wantCheckFault(t, flatten([]line{let("a", leaf), last(nil)}), impl.Fault{Code: impl.FShape})
		wantCheckFault(t, flatten([]line{let("a", truth(true)), last(leaf)}), impl.Fault{Code: impl.FShape})
	}
}

func TestCheckAtTheLimits(t *testing.T) {
	var lines []line
	for i := range maxStmts - 1 {
		lines = append(lines, let("v"+strconv.Itoa(i), truth(true)))
	}
	checkLikeSecond(t, flatten(append(lines, last(nil))))
	lines[maxStmts-2].name = "v0"
	wantCheckFault(t, flatten(append(lines, last(nil))), impl.Fault{Code: impl.FAgain, At: maxStmts - 2})
	for _, n := range []int{maxNodes - 1, maxNodes - 2} {
		p := flatten([]line{let("a", truth(true)), when(wideTree(n), nil), last(nil)})
		if fault := checkLikeSecond(t, p); fault != (impl.Fault{}) {
			t.Errorf("%d nodes: %+v", n, fault)
		}
	}
	p := flatten([]line{let("a", truth(true)), when(deepTree(maxDepth), nil), last(nil)})
	if fault := checkLikeSecond(t, p); fault != (impl.Fault{}) {
		t.Errorf("deepest: %+v", fault)
	}
}

// spoilTree puts a leaf of any type, or a name that may not be known, in place of
// some part of a tree.
func spoilTree(random *rand.Rand, t *tree) *tree {
	if len(t.kids) > 0 && random.Intn(4) > 0 {
		out := *t
		out.kids = slices.Clone(t.kids)
		i := random.Intn(len(t.kids))
		out.kids[i] = spoilTree(random, t.kids[i])
		return &out
	}
	switch random.Intn(6) {
	case 0:
		return named("ghost")
	case 1:
		return named("v" + strconv.Itoa(random.Intn(4)))
	}
	of := []*tree{truth(true), number(1), quoted("a"), setOf("a"), named("client"), named("level"), named("asked")}
	return of[random.Intn(len(of))]
}

func spoilLines(random *rand.Rand, lines []line) []line {
	out := slices.Clone(lines)
	l := &out[random.Intn(len(out))]
	switch {
	case l.kind == impl.SLet && random.Intn(4) == 0:
		l.name = []string{"v0", "v1", "level", "asked", "fresh"}[random.Intn(5)]
	case l.grant != nil && random.Intn(2) == 0:
		l.grant = spoilTree(random, l.grant)
	case l.cond != nil:
		l.cond = spoilTree(random, l.cond)
	}
	return out
}

// Many policies, most of them spoilt in one or two ways, read from loosely written
// texts: Load's fault is Check's, told at the token of the node.
func TestLoadOfManyPolicies(t *testing.T) {
	random := rand.New(rand.NewSource(70))
	counts := map[int]int{}
	for range 8000 {
		g := typedRandom{random: random, written: true}
		lines := written(g.lines(5, 4))
		for range random.Intn(3) {
			lines = spoilLines(random, lines)
		}
		p := flatten(lines)
		fault := checkLikeSecond(t, p)
		writer := loose{random: random}
		for _, l := range lines {
			writer.line(l)
		}
		text := writer.text.String()
		if len(text) > maxText {
			continue
		}
		counts[fault.Code]++
		if fault != (impl.Fault{}) {
			wantLoadFault(t, text, impl.Fault{Code: fault.Code, At: writer.at[fault.At]})
			continue
		}
		want, _ := secondCheck(p)
		if typed := mustLoad(t, text); !sameTyped(typed, want) {
			t.Fatalf("Load(%q) = %+v, want %+v", text, typed, want)
		}
	}
	for _, code := range []int{impl.FNone, impl.FName, impl.FAgain, impl.FType} {
		if counts[code] < 200 {
			t.Errorf("faults that came about: %v", counts)
		}
	}
}

// Any text: a well-typed policy or one fault, which is Parse's or stands at a token.
func TestLoadOfAnyText(t *testing.T) {
	random := rand.New(rand.NewSource(71))
	pieces := append(slices.Clone(piecesOf(everyPlace)), "client", "level", "asked", "true", "1", "{}", "=>", ";", "else deny;")
	for range 20000 {
		var text strings.Builder
		for range random.Intn(12) {
			text.WriteString(pieces[random.Intn(len(pieces))] + " ")
		}
		if random.Intn(2) == 0 {
			text.WriteString("else deny;")
		}
		policy, offsets, parseFault := impl.Parse(text.String())
		typed, fault := impl.Load(text.String())
		switch {
		case parseFault != (impl.Fault{}):
			wantLoadFault(t, text.String(), parseFault)
		case fault == (impl.Fault{}):
			if !impl.WellTyped(typed) || !isWellTyped(typed) {
				t.Fatalf("Load(%q) = %+v", text.String(), typed)
			}
		default:
			_, want := secondCheck(policy)
			wantLoadFault(t, text.String(), impl.Fault{Code: want.Code, At: offsets[want.At]})
		}
	}
}

func TestCheckOfManyOddPolicies(t *testing.T) {
	random := rand.New(rand.NewSource(72))
	counts := map[int]int{}
	for range 20000 {
		p := flatten(randomLines(random, 3, 3))
		for range random.Intn(3) {
			spoilAtRandom(random, &p)
		}
		counts[checkLikeSecond(t, p).Code]++
	}
	if counts[impl.FShape] < 1000 || counts[impl.FType] < 1000 || counts[impl.FName] < 1000 {
		t.Errorf("faults that came about: %v", counts)
	}
}
