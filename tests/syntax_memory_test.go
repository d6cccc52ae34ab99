package tests

import (
	"math/rand"
	"slices"
	"strconv"
	"testing"

	"loop.example/s01308/impl"
)

// spare gives the policy's lists room behind their ends, so that what appends to
// one of them in place is found out.
func spare(p impl.Policy) impl.Policy {
	out := impl.Policy{Nodes: withRoom(p.Nodes), Stmts: withRoom(p.Stmts)}
	for i := range out.Nodes {
		out.Nodes[i].Names = withRoom(out.Nodes[i].Names)
		out.Nodes[i].Kids = withRoom(out.Nodes[i].Kids)
	}
	return out
}

func withRoom[T any](list []T) []T {
	out := make([]T, len(list), len(list)+3)
	copy(out, list)
	return out
}

// whole is the policy with its lists up to their capacity.
func whole(p impl.Policy) impl.Policy {
	out := impl.Policy{
		Nodes: slices.Clone(p.Nodes[:cap(p.Nodes)]),
		Stmts: slices.Clone(p.Stmts[:cap(p.Stmts)]),
	}
	for i, n := range out.Nodes {
		out.Nodes[i].Names = slices.Clone(n.Names[:cap(n.Names)])
		out.Nodes[i].Kids = slices.Clone(n.Kids[:cap(n.Kids)])
	}
	return out
}

func policiesToGuard() []impl.Policy {
	policies := []impl.Policy{goodPolicy(), widePolicy(maxStmts, 5), flatten([]line{last(wideTree(maxNodes))})}
	random := rand.New(rand.NewSource(60))
	for range 200 {
		policies = append(policies, flatten(randomLines(random, 4, 4)))
	}
	for _, wrong := range wrongPolicies() {
		policies = append(policies, wrong)
	}
	return policies
}

func TestPoliciesStay(t *testing.T) {
	for i, p := range policiesToGuard() {
		given := spare(p)
		kept := whole(given)
		valid, text := impl.ValidPolicy(given), impl.Print(given)
		if !samePolicy(whole(given), kept) {
			t.Fatalf("policy %d was changed", i)
		}
		if impl.ValidPolicy(given) != valid || impl.Print(given) != text {
			t.Fatalf("policy %d gets two answers", i)
		}
	}
}

// ownLists fills each list up to its capacity with a number of its own, and then
// looks whether each still holds its own.
func ownLists(t *testing.T, numbers [][]int, texts [][]string) {
	t.Helper()
	for i, list := range numbers {
		for j := range list[:cap(list)] {
			list[:cap(list)][j] = -1 - i
		}
	}
	for i, list := range texts {
		for j := range list[:cap(list)] {
			list[:cap(list)][j] = strconv.Itoa(i)
		}
	}
	for i, list := range numbers {
		if slices.ContainsFunc(list[:cap(list)], func(n int) bool { return n != -1-i }) {
			t.Fatalf("list %d of numbers shares memory with another", i)
		}
	}
	for i, list := range texts {
		if slices.ContainsFunc(list[:cap(list)], func(s string) bool { return s != strconv.Itoa(i) }) {
			t.Fatalf("list %d of texts shares memory with another", i)
		}
	}
}

func TestParseAnswersNewMemory(t *testing.T) {
	random := rand.New(rand.NewSource(61))
	texts := []string{everyPlace, `else grant {"b", "a"} | {"a", "b"} | {"b", "a", "b"};`}
	for range 200 {
		if text := printedLines(randomLines(random, 4, 4)); len(text) <= maxText {
			texts = append(texts, text)
		}
	}
	for _, text := range texts {
		first, offsets, _ := impl.Parse(text)
		want, wantOffsets := copyPolicy(first), slices.Clone(offsets)
		numbers, names := [][]int{offsets}, [][]string{}
		for _, n := range first.Nodes {
			numbers = append(numbers, n.Kids)
			names = append(names, n.Names)
		}
		ownLists(t, numbers, names)
		clear(first.Nodes[:cap(first.Nodes)])
		clear(first.Stmts[:cap(first.Stmts)])
		second, offsets, fault := impl.Parse(text)
		if fault != (impl.Fault{}) || !samePolicy(second, want) || !slices.Equal(offsets, wantOffsets) {
			t.Fatalf("Parse keeps what it answered for %q", text)
		}
	}
}

func TestScanAnswersNewMemory(t *testing.T) {
	first, _ := impl.Scan(everyPlace)
	want := slices.Clone(first)
	clear(first[:cap(first)])
	if second, fault := impl.Scan(everyPlace); fault != (impl.Fault{}) || !slices.Equal(second, want) {
		t.Errorf("Scan keeps what it answered: %+v, %+v", second, fault)
	}
}

// A policy that is changed behind the call must not reach into what was answered.
func TestPrintedTextStays(t *testing.T) {
	p := goodPolicy()
	text := impl.Print(p)
	kept := string([]byte(text))
	p.Nodes[4].Names[0] = "SPOILT"
	p.Nodes[12].Kids[0] = 0
	clear(p.Stmts)
	if text != kept {
		t.Errorf("the text became %q", text)
	}
	if got := impl.Print(goodPolicy()); got != kept {
		t.Errorf("the same policy is printed as %q, it was %q", got, kept)
	}
}
