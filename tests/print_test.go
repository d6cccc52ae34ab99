package tests

import (
	"math/rand"
	"slices"
	"strings"
	"testing"

	"loop.example/s01308/impl"
)

func wantPrint(t *testing.T, p impl.Policy, want string) {
	t.Helper()
	if got := impl.Print(p); got != want {
		t.Fatalf("Print(%+v) = %q, want %q", p, got, want)
	}
}

// checkReadBack holds P5: a policy is read back as it was, and its text stays.
func checkReadBack(t *testing.T, p impl.Policy) {
	t.Helper()
	text := impl.Print(p)
	if text == "" {
		t.Fatalf("%+v has no text", p)
	}
	got, _, fault := impl.Parse(text)
	if len(text) > maxText {
		if fault != (impl.Fault{Code: impl.FSize}) {
			t.Fatalf("a text of %d bytes: %+v", len(text), fault)
		}
		return
	}
	if fault != (impl.Fault{}) || !samePolicy(got, p) {
		t.Fatalf("%q is read back as %+v, %+v, it was %+v", text, got, fault, p)
	}
	if again := impl.Print(got); again != text {
		t.Fatalf("%q is printed again as %q", text, again)
	}
}

func TestPrintStatements(t *testing.T) {
	a := named("a")
	wantPrint(t, flatten([]line{last(nil)}), "else deny;\n")
	wantPrint(t, flatten([]line{last(a)}), "else grant a;\n")
	wantPrint(t, flatten([]line{let("b", a), when(a, nil), when(a, a), last(nil)}),
		"let b = a;\nwhen a => deny;\nwhen a => grant a;\nelse deny;\n")
}

func TestPrintLeaves(t *testing.T) {
	for want, leaf := range map[string]*tree{
		"0":                   number(0),
		"10":                  number(10),
		"9223372036854775807": number(1<<63 - 1),
		`""`:                  {op: impl.OpText},
		`"a:b.c-d_e9"`:        {op: impl.OpText, text: "a:b.c-d_e9"},
		`"if"`:                {op: impl.OpText, text: "if"},
		"true":                {op: impl.OpBool, num: 1},
		"false":               {op: impl.OpBool},
		"{}":                  setOf(),
		`{"a"}`:               setOf("a"),
		`{"a", "b", "c"}`:     setOf("a", "b", "c"),
		"x_1":                 named("x_1"),
	} {
		p := flatten([]line{last(leaf)})
		wantPrint(t, p, "else grant "+want+";\n")
		checkReadBack(t, p)
	}
}

// The words of 3.5, with the operators' texts written by hand.
func TestPrintOperations(t *testing.T) {
	a, b, c := named("a"), named("b"), named("c")
	texts := map[int]string{
		impl.OpNeg: "-a", impl.OpNot: "not a", impl.OpSize: "size(a)",
		impl.OpAdd: "a + b", impl.OpSub: "a - b", impl.OpMul: "a * b", impl.OpDiv: "a / b", impl.OpMod: "a % b",
		impl.OpUnion: "a | b", impl.OpMeet: "a & b", impl.OpMinus: `a \ b`,
		impl.OpEq: "a == b", impl.OpNe: "a != b", impl.OpLess: "a < b", impl.OpMost: "a <= b",
		impl.OpIn: "a in b", impl.OpWithin: "a within b", impl.OpAnd: "a and b", impl.OpOr: "a or b",
		impl.OpIf: "if a then b else c",
	}
	if len(texts) != len(forms) {
		t.Fatalf("%d texts of %d operators", len(texts), len(forms))
	}
	for op, want := range texts {
		p := flatten([]line{last(node(op, []*tree{a, b, c}[:kidsOf(op)]...))})
		wantPrint(t, p, "else grant "+want+";\n")
		checkReadBack(t, p)
	}
}

// Each operator as each kid of each other, so each pair of levels on each side.
func TestPrintPairsOfLevels(t *testing.T) {
	for _, outer := range operators() {
		for place := range kidsOf(outer) {
			for _, inner := range operators() {
				top := node(outer)
				for i := range kidsOf(outer) {
					kid := named("k")
					if i == place {
						kid = node(inner, []*tree{named("a"), named("b"), named("c")}[:kidsOf(inner)]...)
					}
					top.kids = append(top.kids, kid)
				}
				lines := []line{let("x", top), when(top, top), last(top)}
				p := flatten(lines)
				wantPrint(t, p, printedLines(lines))
				checkReadBack(t, p)
				checkNoNeedless(t, printedLines([]line{last(top)}))
			}
		}
	}
}

// Written by hand: one pair of each sort that wants parentheses or does not.
func TestPrintParenthesesByHand(t *testing.T) {
	for _, text := range []string{
		"a - b - c", "a - (b - c)", "a * b * c", "a * (b * c)", "a + b * c", "(a + b) * c", "a * b + c", "a * (b + c)",
		"-a * b", "-(a * b)", "--a", "-(a + b)", "-size(a)", "-(not a)", "a - -b", "-a - b",
		"not not a", "not a == b", "(not a) == b", "a == (not b)", "not (a and b)", "not a and b", "a and not b",
		"a and b and c", "a and (b and c)", "a or b or c", "a or (b or c)", "a and b or c", "a and (b or c)",
		"(a or b) and c", "a or b and c", "(a == b) == c", "a == (b == c)", "a + b == c - d", "(a == b) + c",
		"a in b and c within d", "(a in b) in c", "a | b & c", "(a | b) & c", `a \ b | c`, `a \ (b | c)`, `a & b \ c`,
		"if a then b else if c then d else e", "if if a then b else c then d else e",
		"(if a then b else c) or d", "a or (if b then c else d)", "not (if a then b else c)", "-(if a then b else c)",
		"size(if a then b else c)", "size(a or b)", "size(size(a))", "(a or b) == (c and d)", "not not (a or b)",
	} {
		checkPrintStays(t, "else grant "+text+";\n")
		checkNoNeedless(t, "else grant "+text+";\n")
	}
}

func checkPrintStays(t *testing.T, text string) {
	t.Helper()
	p, _, fault := impl.Parse(text)
	if got := impl.Print(p); fault != (impl.Fault{}) || got != text {
		t.Errorf("%q becomes %q, %+v", text, got, fault)
	}
}

// checkNoNeedless takes each pair of parentheses away, but for those of size: the
// text must then be no policy, or another one.
func checkNoNeedless(t *testing.T, text string) {
	t.Helper()
	want, _, _ := impl.Parse(text)
	var open []int
	for i := range len(text) {
		switch text[i] {
		case '(':
			open = append(open, i)
		case ')':
			from := open[len(open)-1]
			open = open[:len(open)-1]
			if strings.HasSuffix(text[:from], "size") {
				continue
			}
			without := text[:from] + " " + text[from+1:i] + " " + text[i+1:]
			if got, _, fault := impl.Parse(without); fault == (impl.Fault{}) && samePolicy(got, want) {
				t.Errorf("%q needs no parentheses at %d", text, from)
			}
		}
	}
}

func TestPrintIsReadBack(t *testing.T) {
	random := rand.New(rand.NewSource(56))
	for range 6000 {
		lines := randomLines(random, 6, 5)
		p := flatten(lines)
		if !impl.ValidPolicy(p) {
			t.Fatalf("%+v is not valid", p)
		}
		wantPrint(t, p, printedLines(lines))
		checkReadBack(t, p)
	}
}

// What was written loosely is printed once, and then stays.
func TestPrintOfWhatIsRead(t *testing.T) {
	random := rand.New(rand.NewSource(57))
	for range 3000 {
		lines := randomLines(random, 4, 4)
		writer := loose{random: random}
		for _, l := range lines {
			writer.line(l)
		}
		p, _, fault := impl.Parse(writer.text.String())
		if fault.Code == impl.FSize {
			continue
		}
		wantPrint(t, p, printedLines(lines))
		checkReadBack(t, p)
		checkNoNeedless(t, impl.Print(p))
	}
}

func TestPrintAtTheLimits(t *testing.T) {
	for why, chain := range chains(maxDepth) {
		p, _, fault := impl.Parse("else grant " + chain + ";")
		if fault != (impl.Fault{}) {
			t.Fatalf("%s: %+v", why, fault)
		}
		checkReadBack(t, p)
	}
	long := strings.Repeat("n", maxName)
	checkReadBack(t, flatten([]line{let(long, &tree{op: impl.OpText, text: long}), last(setOf(long))}))
	checkReadBack(t, flatten([]line{last(setOf(numberedNames("n", maxSet)...))}))
	// Texts of exactly MaxText bytes, and of one more, which is no text of a policy.
	for _, want := range []int{maxText, maxText + 1} {
		p := flatten(linesOfBytes(want))
		if got := len(impl.Print(p)); got != want {
			t.Fatalf("%d bytes, want %d", got, want)
		}
		checkReadBack(t, p)
	}
}

// linesOfBytes gives statements whose text has n bytes: "let a = 1;\n" has 11,
// "else deny;\n" too, and the name of the first let takes up what remains.
func linesOfBytes(n int) []line {
	var lines []line
	for range n/11 - 1 {
		lines = append(lines, let("a", number(1)))
	}
	lines[0].name = strings.Repeat("a", 1+n%11)
	return append(lines, last(nil))
}

// A valid policy that is too long to be read back is printed all the same.
func TestPrintOfGreatPolicies(t *testing.T) {
	wide := setOf(numberedNames(strings.Repeat("n", maxName-4), maxSet)...)
	var lines []line
	for range maxStmts - 1 {
		lines = append(lines, when(node(impl.OpWithin, wide, wide), wide))
	}
	lines = append(lines, last(wide))
	wantPrint(t, flatten(lines), printedLines(lines))
	checkReadBack(t, flatten(lines))
}

func TestPrintOfWhatIsNotValid(t *testing.T) {
	for why, p := range wrongPolicies() {
		if got := impl.Print(p); got != "" {
			t.Errorf("%s: %q", why, got)
		}
	}
}

// Print must tell apart what Parse tells apart.
func TestPrintTellsPoliciesApart(t *testing.T) {
	random := rand.New(rand.NewSource(58))
	held := map[string]impl.Policy{}
	for range 20000 {
		p := flatten(randomLines(random, 2, 3))
		text := impl.Print(p)
		if other, ok := held[text]; ok && !samePolicy(p, other) {
			t.Fatalf("%q stands for %+v and %+v", text, p, other)
		}
		held[text] = p
	}
	if slices.Contains([]int{0, 1}, len(held)) {
		t.Fatal("all policies are the same")
	}
}
