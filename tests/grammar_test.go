package tests

import (
	"math/rand"
	"slices"
	"strings"
	"testing"

	"loop.example/s01308/impl"
)

// grammar is that of 3.2 with its repetitions written out. A part that is a key
// is a rule, every other part stands for a token.
var grammar = map[string][]string{
	"policy":   {"last", "stmt policy"},
	"stmt":     {"let NAME = expr ;", "when expr => decision ;"},
	"last":     {"else decision ;"},
	"decision": {"deny", "grant expr"},
	"expr":     {"if expr then expr else expr", "or-rule"},
	"or-rule":  {"and-rule", "or-rule or and-rule"},
	"and-rule": {"not-rule", "and-rule and not-rule"},
	"not-rule": {"not not-rule", "cmp"},
	"cmp": {
		"sum", "sum == sum", "sum != sum", "sum < sum", "sum <= sum", "sum in sum", "sum within sum",
	},
	"sum":     {"term", "sum + term", "sum - term", "sum | term", `sum \ term`},
	"term":    {"unary", "term * unary", "term / unary", "term % unary", "term & unary"},
	"unary":   {"- unary", "primary"},
	"primary": {"NUM", "TEXT", "true", "false", "set", "NAME", "( expr )", "size ( expr )"},
	"set":     {"{ }", "{ scopes }"},
	"scopes":  {"SCOPE", "scopes , SCOPE"},
}

// form is one way to write a rule, cut into its parts.
type form struct {
	rule  string
	parts []string
}

// forms of each rule of the grammar; the start is a policy and nothing behind it.
var start, formsOf = cutGrammar()

func cutGrammar() (*form, map[string][]*form) {
	cut := map[string][]*form{}
	for rule, texts := range grammar {
		for _, text := range texts {
			cut[rule] = append(cut[rule], &form{rule, strings.Fields(text)})
		}
	}
	return &form{"start", []string{"policy"}}, cut
}

// step is a form that has been gone through up to done, since token number from.
type step struct {
	form *form
	done int
	from int
}

func (s step) next() string {
	if s.done < len(s.form.parts) {
		return s.form.parts[s.done]
	}
	return ""
}

func (s step) moved() step {
	s.done++
	return s
}

// firstMisfit tells with how many of the tokens the grammar can begin, and
// whether all of them are a policy. It holds at each token all forms that may be
// under way there, so it shares nothing with a parser that goes down one of them.
func firstMisfit(tokens []impl.Token) (int, bool) {
	current := closure(nil, []step{{form: start}}, 0)
	behind := [][]step{current}
	for i, token := range tokens {
		var moved []step
		for _, s := range current {
			if fits(s.next(), token) {
				moved = append(moved, s.moved())
			}
		}
		if len(moved) == 0 {
			return i, false
		}
		current = closure(behind, moved, i+1)
		behind = append(behind, current)
	}
	return len(tokens), slices.Contains(current, step{form: start, done: 1})
}

func closure(behind [][]step, steps []step, at int) []step {
	held := map[step]bool{}
	for _, s := range steps {
		held[s] = true
	}
	add := func(s step) {
		if !held[s] {
			held[s] = true
			steps = append(steps, s)
		}
	}
	for i := 0; i < len(steps); i++ {
		s := steps[i]
		for _, f := range formsOf[s.next()] {
			add(step{form: f, from: at})
		}
		if s.next() != "" || s.form == start {
			continue
		}
		// No rule is empty, so what waited for this one stands further ahead.
		for _, waiting := range behind[s.from] {
			if waiting.next() == s.form.rule {
				add(waiting.moved())
			}
		}
	}
	return steps
}

func fits(part string, token impl.Token) bool {
	switch part {
	case "NAME":
		return token.Kind == impl.TName
	case "NUM":
		return token.Kind == impl.TNum
	case "TEXT":
		return token.Kind == impl.TText
	case "SCOPE":
		return token.Kind == impl.TText && token.Text != ""
	}
	return (token.Kind == impl.TWord || token.Kind == impl.TSign) && token.Text == part
}

// checkSyntax holds Parse against the grammar, for a text that Scan takes and
// that has neither wide sets nor deep trees.
func checkSyntax(t *testing.T, text string) {
	t.Helper()
	tokens, scanFault := scanned(text)
	if scanFault != (impl.Fault{}) {
		t.Fatalf("%q has no tokens: %+v", text, scanFault)
	}
	var want impl.Fault
	if n, whole := firstMisfit(tokens); n < len(tokens) {
		want = impl.Fault{Code: impl.FSyntax, At: tokens[n].At}
	} else if !whole {
		want = impl.Fault{Code: impl.FSyntax, At: len(text)}
	}
	policy, offsets, fault := impl.Parse(text)
	if fault != want {
		t.Fatalf("Parse(%q): %+v, want %+v", text, fault, want)
	}
	if fault != (impl.Fault{}) && (!isEmptyPolicy(policy) || len(offsets) != 0) {
		t.Fatalf("Parse(%q) answers %+v, %v beside a fault", text, policy, offsets)
	}
	if fault == (impl.Fault{}) && (len(policy.Stmts) == 0 || len(offsets) != len(policy.Nodes)) {
		t.Fatalf("Parse(%q) answers %+v, %v", text, policy, offsets)
	}
}

// everyPlace has each place of the grammar at least once.
const everyPlace = `let x = if a then 1 else - 2 ; when not a == 1 and b or c => deny ; ` +
	`when a + 1 * 2 - 3 < size ( { "r" , "w" } ) => grant { } ; let y = ( "" ) in { "r" } | b & c \ d ; ` +
	`when true != false => grant asked ; when a / 2 % 3 <= - - 4 or not not b within c => deny ; else grant x ;`

// oneOfEach has a token of each sort.
func oneOfEach() []string {
	return slices.Concat(words, signs, []string{"name", "12", `""`, `"text"`, `"else"`, "elsewhere"})
}

func TestEveryPlaceOfTheGrammar(t *testing.T) {
	tokens := strings.Fields(everyPlace)
	checkSyntax(t, everyPlace)
	for i := range tokens {
		front := strings.Join(tokens[:i], " ")
		checkSyntax(t, front)
		checkSyntax(t, front+" # the text ends here\n ")
		for _, other := range oneOfEach() {
			checkSyntax(t, front+" "+other)
			checkSyntax(t, front+" "+other+" "+strings.Join(tokens[i:], " "))
			checkSyntax(t, front+" "+other+" "+strings.Join(tokens[i+1:], " "))
		}
	}
	for _, other := range oneOfEach() {
		checkSyntax(t, everyPlace+"\n"+other)
	}
}

// One token of each sort behind every token that may stand in an expression.
func TestEveryPairOfTokens(t *testing.T) {
	for _, first := range oneOfEach() {
		for _, second := range oneOfEach() {
			for _, third := range []string{"", "a", "(", "{", ")", ";"} {
				checkSyntax(t, "else grant "+first+" "+second+" "+third)
				checkSyntax(t, "else grant a "+first+" "+second+" "+third)
			}
			checkSyntax(t, first+" "+second)
			checkSyntax(t, "else grant { "+first+" "+second)
			checkSyntax(t, `else grant { "r" `+first+" "+second)
		}
	}
}

func TestSyntaxOfSpoiltPolicies(t *testing.T) {
	random := rand.New(rand.NewSource(53))
	all := oneOfEach()
	for range 3000 {
		lines := randomLines(random, 3, 3)
		parts := piecesOf(printedLines(lines))
		checkSyntax(t, strings.Join(parts, " "))
		for range 1 + random.Intn(3) {
			i := random.Intn(len(parts))
			switch random.Intn(5) {
			case 0:
				parts = slices.Delete(slices.Clone(parts), i, i+1)
			case 1:
				parts = slices.Insert(slices.Clone(parts), i, all[random.Intn(len(all))])
			case 2:
				parts[i] = all[random.Intn(len(all))]
			case 3:
				j := random.Intn(len(parts))
				parts[i], parts[j] = parts[j], parts[i]
			case 4:
				parts = parts[:i]
			}
			if len(parts) == 0 {
				break
			}
		}
		checkSyntax(t, strings.Join(parts, []string{" ", "\n", " # x\n"}[random.Intn(3)]))
	}
}

// piecesOf gives the tokens of a text as they are written there.
func piecesOf(text string) []string {
	tokens, _ := scanned(text)
	var pieces []string
	for _, token := range tokens {
		pieces = append(pieces, text[token.At:token.At+widthAt(text, token)])
	}
	return pieces
}
