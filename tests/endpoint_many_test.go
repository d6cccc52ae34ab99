package tests

import (
	"math/rand"
	"slices"
	"strconv"
	"strings"
	"testing"

	"loop.example/s01308/impl"
)

// growOps calls do with all lists of up to most of the operations.
func growOps(most int, choice []impl.Op, do func(ops []impl.Op)) {
	lists := [][]impl.Op{nil}
	for range most {
		var longer [][]impl.Op
		for _, list := range lists {
			for _, op := range choice {
				longer = append(longer, append(slices.Clone(list), op))
			}
		}
		for _, list := range longer {
			do(list)
		}
		lists = longer
	}
}

func opsOfLines(lines ...string) []impl.Op {
	var ops []impl.Op
	for _, line := range lines {
		ops = append(ops, secondOp(line))
	}
	return ops
}

// All small scripts, from nothing and behind what a token needs.
func TestAllSmallScripts(t *testing.T) {
	choice := opsOfLines(
		"policy else deny;", "policy "+grantAsked, "policy else grant 1;",
		"client app a,b", "client app a", "consent ann app b,a", "consent ann app", "withdraw ann app",
		"token x"+askAB, "token y"+askA, "look x", "revoke x", "tick 999", "tick 1",
	)
	check := func(ops []impl.Op) {
		if got, want := impl.Play(ops), secondPlay(ops, secondDecide); !sameReplies(got, want) {
			t.Fatalf("Play(%+v)\n= %+v\nwant %+v", ops, got, want)
		}
	}
	growOps(4, choice, check)
	for _, before := range [][]impl.Op{readyOps()[:3], readyOps()} {
		growOps(4, choice[1:], func(ops []impl.Op) { check(append(slices.Clone(before), ops...)) })
	}
}

// scriptRandom makes operations that often hang together.
type scriptRandom struct {
	random   *rand.Rand
	policies []string
	clients  int
	users    int
	tokens   int
	wrong    int // one of so many fields is wrong
}

func (g *scriptRandom) one(texts ...string) string { return texts[g.random.Intn(len(texts))] }

func (g *scriptRandom) name(prefix string, n int) string {
	if g.random.Intn(g.wrong) == 0 {
		return g.one("", "A", "a b", strings.Repeat("n", maxName+1), "a,b", "\n")
	}
	return prefix + strconv.Itoa(g.random.Intn(n))
}

func (g *scriptRandom) list() string {
	if g.random.Intn(g.wrong) == 0 {
		return g.one(",", "a,", "A", "a b", strings.Join(numberedNames("n", maxSet+1), ","), strings.Repeat("a,", maxList)+"a")
	}
	var names []string
	for range g.random.Intn(6) {
		names = append(names, g.one("a", "b", "c", "d", "m0000"))
	}
	if g.random.Intn(8) == 0 {
		names = append(names, numberedNames("n", maxSet-5)...)
	}
	return strings.Join(names, ",")
}

func (g *scriptRandom) ask() string {
	return "client=" + g.name("c", g.clients) + " user=" + g.name("u", g.users) +
		" level=" + g.one("0", "1", "2", "64", "9999999") + " ask=" + g.list()
}

func (g *scriptRandom) step() int64 {
	steps := []int64{0, 1, 1, 2, 100, 499, 500, 999, 1000, 1001, maxTick, maxTick + 1, -1}
	return steps[g.random.Intn(len(steps))]
}

func (g *scriptRandom) op() impl.Op {
	switch g.random.Intn(16) {
	case 0:
		return impl.Op{Kind: impl.KInstall, Text: g.one(g.policies...)}
	case 1, 2:
		return impl.Op{Kind: impl.KClient, Name: g.name("c", g.clients), Text: g.list()}
	case 3, 4:
		return impl.Op{Kind: impl.KConsent, Name: g.name("u", g.users), Other: g.name("c", g.clients), Text: g.list()}
	case 5:
		return impl.Op{Kind: impl.KWithdraw, Name: g.name("u", g.users), Other: g.name("c", g.clients)}
	case 6, 7, 8, 9, 10:
		return impl.Op{Kind: impl.KToken, Name: g.name("t", g.tokens), Text: g.ask()}
	case 11, 12:
		return impl.Op{Kind: impl.KLook, Name: g.name("t", g.tokens)}
	case 13:
		return impl.Op{Kind: impl.KRevoke, Name: g.name("t", g.tokens)}
	case 14:
		return impl.Op{Kind: impl.KTick, Num: g.step()}
	}
	return withOthers(impl.Op{Kind: g.random.Intn(10), Name: "t1", Other: "c1", Text: g.list()}, "c0", 3)
}

// ops begins with what most tokens need.
func (g *scriptRandom) ops(n int) []impl.Op {
	ops := []impl.Op{{Kind: impl.KInstall, Text: g.one(grantAsked, g.one(g.policies...))}}
	for i := range min(g.clients, 3) {
		client := "c" + strconv.Itoa(i)
		ops = append(ops, impl.Op{Kind: impl.KClient, Name: client, Text: "a,b,c"})
		ops = append(ops, impl.Op{Kind: impl.KConsent, Name: "u" + strconv.Itoa(g.random.Intn(g.users)), Other: client, Text: "a,b,d"})
	}
	for len(ops) < n {
		ops = append(ops, g.op())
	}
	return ops[:n]
}

// handPolicies decide in every way, and some have faults.
func handPolicies() []string {
	out := []string{
		grantAsked, grantAsked, "else grant agreed;", `else grant asked & {"a", "b"};`, "else deny;", "else grant {};",
		"when level < 1 => deny; else grant asked & agreed;", "when 1 / level == 0 => deny; else grant asked;",
		`when client == "c1" and user == "u1" => grant {"a"}; when now < 1000 => grant asked; else grant {"b"};`,
		"let x = 9223372036854775807 + level; when now < x => grant asked; else deny;",
		"else grant asked | agreed;", `else grant agreed | {"c"} | ` + wideSet(numberedNames("k", 60), 1) + ";",
		"let n = size(asked) + size(agreed); when n % 2 == 0 => deny; when n % 3 == 0 => grant agreed; else grant asked;",
		"when true or 1 / 0 == 1 => grant asked; else deny;", "when false => deny; let x = 1 / 1; when x < x => deny; else grant asked;",
	}
	for _, texts := range faultyPolicies() {
		out = append(out, texts[0])
	}
	return out
}

// randomPolicies are well-typed policies as texts, on which the optimizer has much to do.
func randomPolicies(random *rand.Rand, n int) []string {
	var out []string
	for len(out) < n {
		g := typedRandom{random: random, written: true}
		text := printedLines(written(g.lines(5, 4)))
		if len(text) <= maxText {
			out = append(out, strings.ReplaceAll(strings.TrimSuffix(text, "\n"), "\n", " "))
		}
	}
	return out
}

func randomScripts(seed int64, n int) [][]impl.Op {
	random := rand.New(rand.NewSource(seed))
	var out [][]impl.Op
	for i := range n {
		g := scriptRandom{random: random, policies: handPolicies(), clients: 3, users: 2, tokens: 8, wrong: 25}
		if i%2 == 0 {
			g.policies = append(g.policies, randomPolicies(random, 20)...)
		}
		length := 10 + random.Intn(50)
		switch i % 40 {
		case 0:
			g.tokens, g.wrong, g.policies, length = 200, 500, []string{grantAsked}, maxOps
		case 1:
			g.clients, length = 70, maxOps
		case 2:
			g.clients, g.users, length = 12, 30, maxOps
		}
		out = append(out, g.ops(length))
	}
	return out
}

// Each of the three ways to decide gives the replies, of which all come about.
func TestManyScripts(t *testing.T) {
	codes := map[int]int{}
	for _, ops := range randomScripts(121, 1500) {
		for _, reply := range checkPlay(t, ops) {
			codes[reply.Code]++
		}
	}
	for code := impl.ROK; code <= impl.RTick; code++ {
		if codes[code] < 50 && code != impl.RFull {
			t.Errorf("replies that came about: %v", codes)
		}
	}
}

// Full registries and full tables, again and again.
func TestManyFullScripts(t *testing.T) {
	random := rand.New(rand.NewSource(122))
	codes := map[int]int{}
	for i := range 60 {
		g := scriptRandom{random: random, policies: []string{grantAsked}, clients: 2, users: 2, tokens: 300, wrong: 1000}
		var ops []impl.Op
		for len(ops) < maxOps {
			switch i % 3 {
			case 0:
				ops = append(ops, readyOps()[:3]...)
				for range 60 {
					ops = append(ops, impl.Op{Kind: impl.KToken, Name: g.name("t", g.tokens), Text: askAB[1:]})
				}
				ops = append(ops, impl.Op{Kind: impl.KRevoke, Name: g.name("t", g.tokens)}, impl.Op{Kind: impl.KTick, Num: int64(random.Intn(800))})
			case 1:
				ops = append(ops, impl.Op{Kind: impl.KClient, Name: g.name("c", 65), Text: g.list()}, g.op())
			case 2:
				ops = append(ops, impl.Op{Kind: impl.KClient, Name: g.name("c", 10), Text: g.list()})
				for range 9 {
					ops = append(ops, impl.Op{Kind: impl.KConsent, Name: g.name("u", 15), Other: g.name("c", 10), Text: g.list()})
				}
				ops = append(ops, impl.Op{Kind: impl.KWithdraw, Name: g.name("u", 15), Other: g.name("c", 10)})
			}
		}
		for _, reply := range checkPlay(t, ops[:maxOps]) {
			codes[reply.Code]++
		}
	}
	if codes[impl.RFull] < 100 || codes[impl.RFullReg] < 100 {
		t.Errorf("replies that came about: %v", codes)
	}
}

// asScript writes operations as a text, if each can be written as a line.
func asScript(ops []impl.Op) (string, bool) {
	words := []string{"none", "policy", "client", "consent", "withdraw", "token", "look", "revoke", "tick"}
	var text strings.Builder
	for _, op := range ops {
		kind := op.Kind
		if kind < 0 || kind >= len(words) {
			kind = 0
		}
		line := words[kind] + " " + map[int]string{
			impl.KInstall: op.Text, impl.KClient: op.Name + " " + op.Text, impl.KConsent: op.Name + " " + op.Other + " " + op.Text,
			impl.KWithdraw: op.Name + " " + op.Other, impl.KToken: op.Name + " " + op.Text, impl.KLook: op.Name, impl.KRevoke: op.Name,
			impl.KTick: strconv.FormatInt(op.Num, 10),
		}[kind]
		if strings.Contains(line, "\n") {
			return "", false
		}
		text.WriteString(line + "\n")
	}
	return text.String(), text.Len() <= maxScript
}

// The lines of a script are the replies to its operations, optimized or not.
func TestManyScriptsAsTexts(t *testing.T) {
	scripts := 0
	for _, ops := range randomScripts(123, 600) {
		text, ok := asScript(ops)
		if !ok {
			continue
		}
		scripts++
		read, _ := checkScript(t, text)
		for why, decide := range map[string]deciding{"plain": runPlain, "optimized": runOptimized} {
			lines := ""
			for _, reply := range secondPlay(read, decide) {
				lines += secondLine(reply) + "\n"
			}
			if got := impl.RunScript(text); got != lines {
				t.Fatalf("RunScript(%q) = %q, want %q (%s)", text, got, lines, why)
			}
		}
	}
	if scripts < 100 {
		t.Errorf("only %d scripts could be written", scripts)
	}
}

// Policies on which the optimizer has much to do, each asked about at many asks.
func TestManyPoliciesOptimizedOrNot(t *testing.T) {
	random := rand.New(rand.NewSource(124))
	codes := map[int]int{}
	for _, policy := range randomPolicies(random, 1500) {
		g := scriptRandom{random: random, policies: []string{policy}, clients: 1, users: 1, tokens: 100, wrong: 1000}
		ops := []impl.Op{{Kind: impl.KInstall, Text: policy}}
		for range 12 {
			ops = append(ops,
				impl.Op{Kind: impl.KClient, Name: "c0", Text: "a,b,c,d," + g.list()},
				impl.Op{Kind: impl.KConsent, Name: "u0", Other: "c0", Text: g.list()},
				impl.Op{Kind: impl.KTick, Num: g.step()},
				impl.Op{Kind: impl.KToken, Name: g.name("t", g.tokens), Text: g.ask()})
		}
		for i, reply := range checkPlay(t, ops) {
			if ops[i].Kind == impl.KToken {
				codes[reply.Code]++
			}
		}
	}
	for _, code := range []int{impl.ROK, impl.RError, impl.RDenied, impl.RNothing} {
		if codes[code] < 300 {
			t.Errorf("replies to asks: %v", codes)
		}
	}
}
