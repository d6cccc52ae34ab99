package tests

import (
	"math/rand"
	"slices"
	"testing"

	"loop.example/s01308/impl"
)

func policyOf(t impl.Typed) impl.Policy { return impl.Policy{Nodes: t.Nodes, Stmts: t.Stmts} }

func spareTyped(t impl.Typed) impl.Typed {
	p := spare(policyOf(t))
	return impl.Typed{Nodes: p.Nodes, Stmts: p.Stmts, Types: withRoom(t.Types)}
}

func wholeTyped(t impl.Typed) impl.Typed {
	p := whole(policyOf(t))
	return impl.Typed{Nodes: p.Nodes, Stmts: p.Stmts, Types: slices.Clone(t.Types[:cap(t.Types)])}
}

// overwrite spoils all that a policy reaches, up to the capacities.
func overwrite(p impl.Policy) {
	for _, n := range p.Nodes[:cap(p.Nodes)] {
		spoil(n.Names)
		for i := range n.Kids[:cap(n.Kids)] {
			n.Kids[:cap(n.Kids)][i] = -99
		}
	}
	clear(p.Nodes[:cap(p.Nodes)])
	clear(p.Stmts[:cap(p.Stmts)])
}

func overwriteTyped(t impl.Typed) {
	overwrite(policyOf(t))
	clear(t.Types[:cap(t.Types)])
}

// ownTyped finds out lists of one answer that share memory.
func ownTyped(t *testing.T, typed impl.Typed) {
	t.Helper()
	numbers, names := [][]int{typed.Types}, [][]string{}
	for _, n := range typed.Nodes {
		numbers = append(numbers, n.Kids)
		names = append(names, n.Names)
	}
	ownLists(t, numbers, names)
}

func typedToGuard(t *testing.T) []impl.Typed {
	out := []impl.Typed{
		goodTyped(), typedLines(manyLets(maxStmts)), typedLines([]line{when(wideOf(maxNodes, truth(true)), nil), last(nil)}),
		// One constant that goes to many places, and sets that stay as they are.
		mustLoad(t, `let a = {"a", "b"}; when client in a => grant a; when user in a => grant a \ asked; else grant a;`),
		mustLoad(t, `let a = {"a", "b"} | {}; let b = a; when b within asked => grant if client == user then b else a; else grant a;`),
		mustLoad(t, `when asked within {"a"} => grant {"a"} | asked; when 1 / level == 1 => grant asked \ {"b"}; else grant {} | {"c"};`),
		mustLoad(t, `let a = asked | agreed; let b = -level; let c = {"a"} & asked; when c == {"a"} => grant c; else grant asked;`),
	}
	random := rand.New(rand.NewSource(80))
	for range 300 {
		g := typedRandom{random: random}
		out = append(out, typedLines(g.lines(5, 4)))
	}
	for _, wrong := range wrongTyped() {
		if len(wrong.Nodes) <= maxNodes {
			out = append(out, wrong)
		}
	}
	return out
}

func TestTypedArgumentsStay(t *testing.T) {
	requests := edgeRequests()
	for _, wrong := range wrongRequests() {
		requests = append(requests, wrong)
	}
	for i, typed := range typedToGuard(t) {
		given := spareTyped(typed)
		kept := wholeTyped(given)
		request := requests[i%len(requests)]
		asked, agreed := guard(request.Asked), guard(request.Agreed)
		request.Asked, request.Agreed = asked.list, agreed.list
		impl.WellTyped(given)
		impl.Safe(given, i%(len(given.Nodes)+2)-1)
		spoil(impl.Decide(given, request).Scopes)
		overwriteTyped(impl.Optimize(given))
		if !sameTyped(wholeTyped(given), kept) {
			t.Fatalf("%+v was changed", typed)
		}
		asked.check(t, "asked")
		agreed.check(t, "agreed")
	}
}

// What was answered stays when the arguments are changed behind the call.
func TestTypedAnswersStay(t *testing.T) {
	for _, typed := range typedToGuard(t) {
		given, request := spareTyped(typed), plainRequest()
		optimized, outcome := impl.Optimize(given), impl.Decide(given, request)
		kept, keptScopes := copyTyped(optimized), slices.Clone(outcome.Scopes)
		overwriteTyped(given)
		spoil(request.Asked)
		spoil(request.Agreed)
		if !sameTyped(optimized, kept) || !slices.Equal(outcome.Scopes, keptScopes) {
			t.Fatalf("the answers for %+v became %+v and %+v", typed, optimized, outcome)
		}
		ownTyped(t, optimized)
		if again := impl.Optimize(spareTyped(typed)); !sameTyped(again, kept) {
			t.Fatalf("the same policy is optimized to %+v, it was %+v", again, kept)
		}
	}
}

func TestCheckedPoliciesStay(t *testing.T) {
	policies := policiesToGuard()
	random := rand.New(rand.NewSource(81))
	for range 300 {
		g := typedRandom{random: random, written: true}
		policies = append(policies, flatten(written(g.lines(5, 4))))
	}
	taken := 0
	for i, p := range policies {
		given := spare(p)
		kept := whole(given)
		typed, fault := impl.Check(given)
		if !samePolicy(whole(given), kept) {
			t.Fatalf("policy %d was changed", i)
		}
		keptTyped := copyTyped(typed)
		overwrite(given)
		if !sameTyped(typed, keptTyped) {
			t.Fatalf("policy %d shares memory with its answer", i)
		}
		ownTyped(t, typed)
		if again, fault2 := impl.Check(spare(p)); fault != fault2 || !sameTyped(again, keptTyped) {
			t.Fatalf("policy %d is checked as %+v, it was %+v", i, again, keptTyped)
		}
		if fault == (impl.Fault{}) {
			taken++
		}
	}
	if taken < 300 {
		t.Errorf("%d policies are right", taken)
	}
}

func TestLoadAnswersNewMemory(t *testing.T) {
	const text = `let a = {"b", "a"}; when "a" in a => grant a | {"a", "b"}; else grant asked;`
	first := mustLoad(t, text)
	kept := copyTyped(first)
	ownTyped(t, first)
	overwriteTyped(first)
	if second := mustLoad(t, text); !sameTyped(second, kept) {
		t.Errorf("Load keeps what it answered: %+v", second)
	}
}

// A grant may be the request's own set, a node's, or a let's; none is handed out.
func TestGrantedScopesAreNewMemory(t *testing.T) {
	for _, text := range []string{
		"else grant asked;", "else grant agreed;", `else grant {"a", "b"};`, "let a = asked; else grant a;", `let a = {"a", "b"}; else grant a;`,
		"else grant asked | {};", `else grant asked \ {};`, "else grant asked & asked;", "else grant if level == 2 then asked else {};",
	} {
		typed, request := mustLoad(t, text), plainRequest()
		want := impl.Decide(typed, request)
		want.Scopes = slices.Clone(want.Scopes)
		spoil(impl.Decide(typed, request).Scopes)
		if got := impl.Decide(typed, request); len(want.Scopes) == 0 || !sameOutcome(got, want) {
			t.Errorf("%q: %+v, it was %+v", text, got, want)
		}
	}
}
