package tests

import (
	"math/rand"
	"slices"
	"strings"
	"testing"

	"loop.example/s01308/impl"
)

func wantPolicy(t *testing.T, text string, want impl.Policy) []int {
	t.Helper()
	got, offsets, fault := impl.Parse(text)
	if fault != (impl.Fault{}) || !samePolicy(got, want) {
		t.Fatalf("Parse(%q) = %+v, %+v, want %+v", text, got, fault, want)
	}
	if len(offsets) != len(got.Nodes) {
		t.Fatalf("Parse(%q): %d offsets of %d nodes", text, len(offsets), len(got.Nodes))
	}
	return offsets
}

func wantParseFault(t *testing.T, text string, code, at int) {
	t.Helper()
	policy, offsets, fault := impl.Parse(text)
	if fault != (impl.Fault{Code: code, At: at}) {
		t.Errorf("Parse(%.80q): %+v, want code %d at %d", text, fault, code, at)
	}
	if !isEmptyPolicy(policy) || len(offsets) != 0 {
		t.Errorf("Parse(%.80q): %+v, %v beside a fault", text, policy, offsets)
	}
}

func TestParseLeaves(t *testing.T) {
	for text, want := range map[string]*tree{
		"0":                   number(0),
		"0010":                number(10),
		"9223372036854775807": number(1<<63 - 1),
		`""`:                  {op: impl.OpText},
		`"a.b"`:               {op: impl.OpText, text: "a.b"},
		`"else"`:              {op: impl.OpText, text: "else"},
		"true":                {op: impl.OpBool, num: 1},
		"false":               {op: impl.OpBool},
		"{}":                  setOf(),
		`{"b"}`:               setOf("b"),
		`{"b","a","b"}`:       setOf("a", "b"),
		`{ "ab" , "a" }`:      setOf("a", "ab"),
		"client":              named("client"),
		"((x))":               named("x"),
	} {
		offsets := wantPolicy(t, "else grant "+text+";", flatten([]line{last(want)}))
		if at := 11 + strings.Count(text, "("); !slices.Equal(offsets, []int{at}) {
			t.Errorf("%s: offsets %v, want %d", text, offsets, at)
		}
	}
}

func TestParseStatements(t *testing.T) {
	one := number(1)
	for text, want := range map[string][]line{
		"else deny;":                              {last(nil)},
		"else grant 1;":                           {last(one)},
		"let a=1;else deny;":                      {let("a", one), last(nil)},
		"when 1=>deny;else deny;":                 {when(one, nil), last(nil)},
		"when 1=>grant 1;else grant 1;":           {when(one, one), last(one)},
		"let a=1;let a=1;when 1=>deny;else deny;": {let("a", one), let("a", one), when(one, nil), last(nil)},
		"when 1=>deny;let a=1;else grant a;":      {when(one, nil), let("a", one), last(named("a"))},
	} {
		wantPolicy(t, text, flatten(want))
		wantPolicy(t, "\n# ahead\n "+text+"\t# behind", flatten(want))
	}
}

// Written by hand, so that the order of nodes hangs on no writer of the tests.
func TestParseOrderOfNodes(t *testing.T) {
	const text = `when not a in {"z","y"} => grant if b then -c else size(d | e); else grant f;`
	want := impl.Policy{
		Nodes: []impl.Node{
			{Op: impl.OpName, Text: "a"},
			{Op: impl.OpSet, Names: []string{"y", "z"}},
			{Op: impl.OpIn, Kids: []int{0, 1}},
			{Op: impl.OpNot, Kids: []int{2}},
			{Op: impl.OpName, Text: "b"},
			{Op: impl.OpName, Text: "c"},
			{Op: impl.OpNeg, Kids: []int{5}},
			{Op: impl.OpName, Text: "d"},
			{Op: impl.OpName, Text: "e"},
			{Op: impl.OpUnion, Kids: []int{7, 8}},
			{Op: impl.OpSize, Kids: []int{9}},
			{Op: impl.OpIf, Kids: []int{4, 6, 10}},
			{Op: impl.OpName, Text: "f"},
		},
		Stmts: []impl.Stmt{{Kind: impl.SWhen, Cond: 3, Grant: 11}, {Kind: impl.SElse, Cond: -1, Grant: 12}},
	}
	offsets := wantPolicy(t, text, want)
	var pieces []string
	for _, at := range offsets {
		pieces = append(pieces, piecesOf(text[at:])[0])
	}
	if got := strings.Join(pieces, " "); got != "a { in not b c - d e | size if f" {
		t.Errorf("the offsets %v point to %s", offsets, got)
	}
}

func TestParseAssociatesToTheLeft(t *testing.T) {
	for _, op := range operators() {
		if kidsOf(op) != 2 {
			continue
		}
		sign := strings.Fields(forms[op].form)[1]
		chain := "else grant a " + sign + " b " + sign + " c;"
		if forms[op].level == 4 {
			wantParseFault(t, chain, impl.FSyntax, 16+len(sign))
			continue
		}
		want := node(op, node(op, named("a"), named("b")), named("c"))
		offsets := wantPolicy(t, chain, flatten([]line{last(want)}))
		if at := 16 + len(sign); !slices.Equal(offsets, []int{11, 14 + len(sign), 13, 17 + 2*len(sign), at}) {
			t.Errorf("%s: offsets %v", chain, offsets)
		}
	}
}

func TestParseReadsWhatIsWrittenLoosely(t *testing.T) {
	random := rand.New(rand.NewSource(54))
	for range 4000 {
		lines := randomLines(random, 5, 4)
		writer := loose{random: random}
		for _, l := range lines {
			writer.line(l)
		}
		text := writer.text.String()
		if len(text) > maxText {
			wantParseFault(t, text, impl.FSize, 0)
			continue
		}
		if offsets := wantPolicy(t, text, flatten(lines)); !slices.Equal(offsets, writer.at) {
			t.Fatalf("Parse(%q): offsets %v, want %v", text, offsets, writer.at)
		}
	}
}

// Without blanks, and with the words as far together as they can stand.
func TestParseTight(t *testing.T) {
	wantPolicy(t, `let a=not(not b)and-1-1<-2;else grant{"a"}|if_&{};`, flatten([]line{
		let("a", node(impl.OpAnd,
			node(impl.OpNot, node(impl.OpNot, named("b"))),
			node(impl.OpLess, node(impl.OpSub, node(impl.OpNeg, number(1)), number(1)), node(impl.OpNeg, number(2))))),
		last(node(impl.OpUnion, setOf("a"), node(impl.OpMeet, named("if_"), setOf()))),
	}))
}

func TestParseSyntaxFaults(t *testing.T) {
	for text, at := range map[string]int{
		"":                            0,
		"  # nothing\n":               12,
		"else":                        4,
		"else deny":                   9,
		"else deny # ;":               13,
		"else deny; ;":                11,
		"else deny; else deny;":       11,
		"else deny; x":                11,
		"deny;":                       0,
		"let":                         3,
		"let x":                       5,
		"let x 1;":                    6,
		"let x == 1;":                 6,
		"let \"x\" = 1;":              4,
		"let 1 = 1;":                  4,
		"let else = 1;":               4,
		"let x = ;":                   8,
		"let x = 1":                   9,
		"let x = 1; ":                 11,
		"let x = deny; else deny;":    8,
		"when => deny;":               5,
		"when a deny;":                7,
		"when a => a;":                10,
		"when a => \"deny\";":         10,
		"when a => deny a;":           15,
		"when a => grant;":            15,
		"when a => grant deny;":       16,
		"else grant if a then b;":     22,
		"else grant if a else b;":     16,
		"else grant a then b;":        13,
		"else grant a + if b then c;": 15,
		"else grant a or if b;":       16,
		"else grant not if a;":        15,
		"else grant a == not b;":      16,
		"else grant - not a;":         13,
		"else grant a + not b;":       15,
		"else grant a * not b;":       15,
		"else grant a not b;":         13,
		"else grant a within b in c;": 22,
		"else grant a < b <= c;":      17,
		"else grant ();":              12,
		"else grant (a;":              13,
		"else grant a);":              12,
		"else grant ((a);":            15,
		"else grant size a;":          16,
		"else grant size();":          16,
		"else grant size(a;":          17,
		"else grant size;":            15,
		"else grant {;":               12,
		"else grant {a};":             12,
		"else grant {1};":             12,
		"else grant {,};":             12,
		"else grant {\"\"};":          12,
		"else grant {\"a\",};":        16,
		"else grant {\"a\",\"\"};":    16,
		"else grant {\"a\" \"b\"};":   16,
		"else grant {\"a\"":           15,
		"else grant {\"a\",":          16,
		"else grant {{}};":            12,
		"else grant a b;":             13,
		"else grant 1 2;":             13,
		"else grant \"a\" \"b\";":     15,
		"else grant true false;":      16,
		"else grant + a;":             11,
		"else grant a + ;":            15,
		"else grant -;":               12,
	} {
		wantParseFault(t, text, impl.FSyntax, at)
	}
}

// An empty quoted text is refused only where a scope is asked for.
func TestParseEmptyTexts(t *testing.T) {
	empty := &tree{op: impl.OpText}
	wantPolicy(t, `when ""=="" =>deny; else grant "" in {};`, flatten([]line{
		when(node(impl.OpEq, empty, empty), nil), last(node(impl.OpIn, empty, setOf())),
	}))
	wantParseFault(t, `when "" in {"a", ""} => deny; else deny;`, impl.FSyntax, 17)
}

// wideSet writes the names, each as often as told, as a set literal.
func wideSet(names []string, times int) string {
	return `{"` + strings.Join(slices.Repeat(names, times), `","`) + `"}`
}

func TestParseWideSets(t *testing.T) {
	most := numberedNames("n", maxSet)
	more := numberedNames("n", maxSet+1)
	wantPolicy(t, "else grant "+wideSet(most, 1)+";", flatten([]line{last(setOf(most...))}))
	wantPolicy(t, "else grant "+wideSet(most, 7)+";", flatten([]line{last(setOf(most...))}))
	turned := slices.Clone(most)
	slices.Reverse(turned)
	wantPolicy(t, "else grant "+wideSet(turned, 2)+";", flatten([]line{last(setOf(most...))}))
	// More names than a list may have that is to become a set, but few different ones.
	wantPolicy(t, "else grant "+wideSet([]string{"b", "a"}, 450)+";", flatten([]line{last(setOf("a", "b"))}))
	wantParseFault(t, "else grant "+wideSet(more, 1)+";", impl.FLimit, 11)
	wantParseFault(t, "else grant "+wideSet(more, 2)+";", impl.FLimit, 11)
	wantParseFault(t, "else grant a |( "+wideSet(more, 1)+" ) ;", impl.FLimit, 16)
	// The first one counts, also where it stands deeper or further left.
	front := `when {"a"} == ` + wideSet(most, 1) + " => grant b | (c & "
	wantParseFault(t, front+wideSet(more, 1)+") | "+wideSet(more, 1)+"; else grant "+wideSet(more, 1)+";", impl.FLimit, len(front))
	// In a text of full length more than MaxList different names may stand.
	wantParseFault(t, "else grant "+wideSet(numberedNames("", 550), 1)+";", impl.FLimit, 11)
}

// chains are trees of n levels, each written so that its depth grows in another way.
func chains(n int) map[string]string {
	rest := n - 1
	return map[string]string{
		"not":        strings.Repeat("not ", rest) + "a",
		"minus":      strings.Repeat("-", rest) + "a",
		"left":       "a" + strings.Repeat("+a", rest),
		"right":      strings.Repeat("a-(", rest) + "a" + strings.Repeat(")", rest),
		"size":       strings.Repeat("size(", rest) + "a" + strings.Repeat(")", rest),
		"if first":   strings.Repeat("if ", rest) + "a" + strings.Repeat(" then b else c", rest),
		"if second":  strings.Repeat("if a then ", rest) + "b" + strings.Repeat(" else c", rest),
		"if third":   strings.Repeat("if a then b else ", rest) + "c",
		"brackets":   "((((" + strings.Repeat("((not ", rest) + "((a))" + strings.Repeat("))", rest) + "))))",
		"comparison": strings.Repeat("(a==", rest) + "a" + strings.Repeat(")", rest),
		"both sides": "(" + strings.Repeat("-", rest-1) + "a)*(" + strings.Repeat("-", rest-1) + "a)",
	}
}

func TestParseDepth(t *testing.T) {
	for n := 2; n <= maxDepth; n += 31 {
		for why, chain := range chains(n) {
			if _, _, fault := impl.Parse("when " + chain + " => grant " + chain + "; else deny;"); fault != (impl.Fault{}) {
				t.Errorf("%s, %d deep: %+v", why, n, fault)
			}
		}
	}
	for _, n := range []int{maxDepth + 1, maxDepth + 2, 2 * maxDepth} {
		for why, chain := range chains(n) {
			for _, text := range []string{
				"let x = 1; when a => deny; |let y = " + chain + "; else deny;",
				"let x = 1; |when " + chain + " => deny; else deny;",
				"let x = 1; |when a => grant " + chain + "; else deny;",
				"let x = 1; |else grant " + chain + ";",
				"  # first\n |let y = " + chain + "; let z = " + chain + "; else deny;",
			} {
				at := strings.Index(text, "|")
				text = text[:at] + text[at+1:]
				if _, _, fault := impl.Parse(text); fault != (impl.Fault{Code: impl.FDepth, At: at}) && len(text) <= maxText {
					t.Errorf("%s, %d deep: %+v, want %d", why, n, fault, at)
				}
			}
		}
	}
}

// Nothing that fits a text may be too deep for the parser itself.
func TestParseDeepTexts(t *testing.T) {
	const front, back = "else grant ", ";"
	room := maxText - len(front) - len(back)
	inside := strings.Repeat("(", room/2) + "a" + strings.Repeat(")", room/2)
	for len(front+inside+back) > maxText {
		inside = inside[1 : len(inside)-1]
	}
	wantPolicy(t, front+inside+back, flatten([]line{last(named("a"))}))
	wantParseFault(t, front+strings.Repeat("-", room-1)+"a"+back, impl.FDepth, 0)
	wantParseFault(t, front+"a"+strings.Repeat("+a", room/2-1)+back, impl.FDepth, 0)
	for _, open := range []string{"(", "-", "not ", "size(", "if ", "a+(", "if a then ", "a==("} {
		text := front + strings.Repeat(open, room/len(open))
		wantParseFault(t, text, impl.FSyntax, len(text))
	}
	wantParseFault(t, front+strings.Repeat("{", room), impl.FSyntax, len(front)+1)
}

func TestParseTextLengths(t *testing.T) {
	const text = "else deny;"
	want := flatten([]line{last(nil)})
	wantPolicy(t, text+strings.Repeat(" ", maxText-len(text)), want)
	wantPolicy(t, strings.Repeat("#", maxText-len(text)-1)+"\n"+text, want)
	wantParseFault(t, text+strings.Repeat(" ", maxText-len(text)+1), impl.FSize, 0)
	wantParseFault(t, strings.Repeat("\n", maxText-len(text)+1)+text, impl.FSize, 0)
	wantParseFault(t, strings.Repeat(" ", maxText), impl.FSyntax, maxText)
}

// Two things wrong in one text: what 3.4 names first comes first, wherever it stands.
func TestParseOrderOfFaults(t *testing.T) {
	wide := wideSet(numberedNames("n", maxSet+1), 1)
	deep := chains(maxDepth + 1)["not"]
	pieces := []struct {
		text string
		code int
		at   int
	}{
		{"let a = A; ", impl.FByte, 8},
		{"let a = 1x; ", impl.FToken, 8},
		{"let a 1; ", impl.FSyntax, 6},
		{"let a = " + wide + "; ", impl.FLimit, 8},
		{"let a = " + deep + "; ", impl.FDepth, 0},
	}
	for i, first := range pieces {
		for j, second := range pieces {
			text := first.text + second.text + "else deny;"
			// The scanner's two faults are of one rank: there the text's order counts.
			want, at := first.code, first.at
			if rank(second.code) < rank(first.code) {
				want, at = second.code, len(first.text)+second.at
			}
			if _, _, fault := impl.Parse(text); fault != (impl.Fault{Code: want, At: at}) {
				t.Errorf("pieces %d and %d: %+v, want code %d at %d", i, j, fault, want, at)
			}
		}
	}
	wantParseFault(t, "else A"+strings.Repeat(" ", maxText), impl.FSize, 0)
	unended := "when " + deep + " | " + wide + " => deny; else deny"
	wantParseFault(t, unended, impl.FSyntax, len(unended))
}

func rank(code int) int {
	if code == impl.FToken {
		return impl.FByte
	}
	return code
}

// What Parse reads is valid, and what it refuses has a fault with an offset in the text.
func TestParseOfManyTexts(t *testing.T) {
	random := rand.New(rand.NewSource(55))
	for range 30000 {
		text := []byte(printedLines(randomLines(random, 4, 4)))
		for range random.Intn(3) {
			i := random.Intn(len(text))
			text[i] = "abz019 ;=(){}\"#-\nA!"[random.Intn(19)]
		}
		policy, offsets, fault := impl.Parse(string(text))
		switch {
		case fault == (impl.Fault{}):
			if !impl.ValidPolicy(policy) || len(offsets) != len(policy.Nodes) {
				t.Fatalf("Parse(%q) = %+v, %v", text, policy, offsets)
			}
		case fault.Code < impl.FSize || fault.Code > impl.FDepth || fault.At < 0 || fault.At > len(text):
			t.Fatalf("Parse(%q): %+v", text, fault)
		case !isEmptyPolicy(policy) || len(offsets) != 0:
			t.Fatalf("Parse(%q) = %+v, %v beside %+v", text, policy, offsets, fault)
		}
	}
}

// Scan's fault is Parse's.
func TestParseTellsScanFaults(t *testing.T) {
	wantParseFault(t, "else deny; !", impl.FByte, 11)
	wantParseFault(t, "Else deny;", impl.FByte, 0)
	wantParseFault(t, "else grant 1a;", impl.FToken, 11)
	wantParseFault(t, "else grant \"a;", impl.FToken, 11)
	wantParseFault(t, strings.Repeat(" ", maxText+1), impl.FSize, 0)
}
