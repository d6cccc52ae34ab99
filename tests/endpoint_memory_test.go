package tests

import (
	"slices"
	"strings"
	"testing"

	"loop.example/s01308/impl"
)

func overwriteOps(ops []impl.Op) {
	for i := range ops[:cap(ops)] {
		ops[:cap(ops)][i] = impl.Op{Kind: impl.KTick, Name: "SPOILT", Other: "SPOILT", Text: "SPOILT", Num: 7}
	}
}

func overwriteReplies(replies []impl.Reply) {
	for _, reply := range replies {
		spoil(reply.Scopes)
	}
	for i := range replies[:cap(replies)] {
		replies[:cap(replies)][i] = impl.Reply{Code: -1, Num: -1, Scopes: []string{"SPOILT"}}
	}
}

// ownReplies finds out replies that share memory.
func ownReplies(t *testing.T, replies []impl.Reply) {
	t.Helper()
	var scopes [][]string
	for _, reply := range replies {
		scopes = append(scopes, reply.Scopes)
	}
	ownLists(t, nil, scopes)
}

func scriptsToGuard() [][]impl.Op {
	looks := slices.Repeat([]impl.Op{{Kind: impl.KLook, Name: "x"}}, 5)
	var out [][]impl.Op
	for _, policy := range []string{
		grantAsked, "else grant agreed;", `else grant {"a", "b"};`, "else grant asked & agreed;", "else grant asked | {};",
		`let s = {"a", "b"}; when s == asked => grant s; else deny;`, "else deny;", "else grant 1;",
	} {
		ops := readyOps()
		ops[0].Text = policy
		ops = append(ops, looks...)
		ops = append(ops, impl.Op{Kind: impl.KToken, Name: "y", Text: askAB[1:]}, impl.Op{Kind: impl.KLook, Name: "y"})
		out = append(out, append(ops, looks...))
	}
	out = append(out, nil, make([]impl.Op, maxOps), make([]impl.Op, maxOps+1))
	return append(out, randomScripts(130, 300)...)
}

func TestOperationsStay(t *testing.T) {
	for _, ops := range scriptsToGuard() {
		given := withRoom(ops)
		kept := slices.Clone(given[:cap(given)])
		replies := impl.Play(given)
		if !slices.Equal(given[:cap(given)], kept) {
			t.Fatalf("%s was changed", brief(ops))
		}
		keptReplies := copyReplies(replies)
		overwriteOps(given)
		if !sameReplies(replies, keptReplies) {
			t.Fatalf("%s shares memory with its replies", brief(ops))
		}
		ownReplies(t, replies)
		overwriteReplies(replies)
		if again := impl.Play(ops); !sameReplies(again, keptReplies) {
			t.Fatalf("%s is replied to by %s, it was %s", brief(ops), brief(again), brief(keptReplies))
		}
	}
}

// An answer must not be reached through a later one.
func TestRepliesOfTwoCallsAreApart(t *testing.T) {
	for _, ops := range scriptsToGuard() {
		first, second := impl.Play(ops), impl.Play(ops)
		kept := copyReplies(second)
		ownReplies(t, append(slices.Clone(first), second...))
		overwriteReplies(first)
		if third := impl.Play(ops); !sameReplies(third, kept) {
			t.Fatalf("%s is replied to by %s, it was %s", brief(ops), brief(third), brief(kept))
		}
	}
}

func TestReadOperationsAreNewMemory(t *testing.T) {
	for _, text := range []string{
		"", "\n", "look x\nlook x\n", "policy else deny;\nclient app a,b\nconsent ann app a\nwithdraw ann app\ntick 5\nwhat\n",
		strings.Repeat("look x\n", maxOps), strings.Repeat("look x\n", maxOps+1), "token x" + askAB,
	} {
		first, ok := impl.ParseScript(text)
		kept := slices.Clone(first)
		told := impl.RunScript(text)
		overwriteOps(first)
		second, okAgain := impl.ParseScript(text)
		if ok != okAgain || !slices.Equal(second, kept) || impl.RunScript(text) != told {
			t.Errorf("%q is read as %s, it was %s", brief(text), brief(second), brief(kept))
		}
	}
}

// Calls at the same time do not reach one another.
func TestCallsAtTheSameTime(t *testing.T) {
	scripts := randomScripts(131, 40)
	var want [][]impl.Reply
	for _, ops := range scripts {
		want = append(want, impl.Play(ops))
	}
	failures := make(chan int, 8*len(scripts))
	ended := make(chan bool)
	for range 8 {
		go func() {
			for i, ops := range scripts {
				if !sameReplies(impl.Play(ops), want[i]) {
					failures <- i
				}
			}
			ended <- true
		}()
	}
	for range 8 {
		<-ended
	}
	close(failures)
	for i := range failures {
		t.Errorf("script %d gets other replies beside others", i)
	}
}
