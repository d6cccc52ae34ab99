package tests

import (
	"math"
	"math/rand"
	"slices"
	"strconv"
	"strings"
	"testing"

	"loop.example/s01308/impl"
)

func wantVerify(t *testing.T, c impl.Code, bound, wrong int) {
	t.Helper()
	gotBound, got := impl.Verify(c)
	if gotBound != bound || got != wrong {
		t.Errorf("Verify(%s) = %d, %d, want %d, %d", brief(c), gotBound, got, bound, wrong)
	}
	if secondBound, second := secondVerify(c); secondBound != bound || second != wrong {
		t.Errorf("%s is verified once more as %d, %d, not %d, %d", brief(c), secondBound, second, bound, wrong)
	}
	if wrong == impl.VOK {
		checkAccepted(t, c, edgeRequests()...)
	}
}

func wantRefused(t *testing.T, slots int, text string, wrong int) {
	t.Helper()
	wantVerify(t, assemble(slots, text), 0, wrong)
}

// verifyLikeSecond holds Verify against secondVerify, and P10 and P12 where the
// code is accepted.
func verifyLikeSecond(t *testing.T, c impl.Code, requests ...impl.Request) int {
	t.Helper()
	wantBound, want := secondVerify(c)
	if bound, wrong := impl.Verify(c); bound != wantBound || wrong != want {
		t.Fatalf("Verify(%s) = %d, %d, want %d, %d", brief(c), bound, wrong, wantBound, want)
	}
	for _, r := range requests {
		if want == impl.VOK {
			checkRun(t, c, wantBound, r)
		} else if got := impl.Run(c, r); !sameTrace(got, badTrace()) {
			t.Fatalf("Run(%s, %+v) = %+v", brief(c), r, got)
		}
	}
	return want
}

func badTrace() impl.Trace { return impl.Trace{Out: impl.Outcome{Kind: impl.OutBad}} }

// checkAccepted holds P10 and P12 for a code that is to be accepted.
func checkAccepted(t *testing.T, c impl.Code, requests ...impl.Request) {
	t.Helper()
	bound, wrong := impl.Verify(c)
	wantBound, wantWrong := secondVerify(c)
	if wrong != impl.VOK || wantWrong != impl.VOK || bound != wantBound {
		t.Fatalf("Verify(%s) = %d, %d, want %d, %d", brief(c), bound, wrong, wantBound, wantWrong)
	}
	for _, r := range requests {
		checkRun(t, c, bound, r)
	}
}

func checkRun(t *testing.T, c impl.Code, bound int, r impl.Request) {
	t.Helper()
	got, want := impl.Run(c, r), secondRun(c, r)
	if !sameTrace(got, want) {
		t.Fatalf("Run(%s, %+v) = %+v, want %+v", brief(c), r, got, want)
	}
	if got.Steps > len(c.Ins) || got.Peak > bound {
		t.Fatalf("Run(%s, %+v) = %+v, with the bound %d", brief(c), r, got, bound)
	}
	if k := got.Out.Kind; k != impl.OutDeny && k != impl.OutGrant && k != impl.OutError {
		t.Fatalf("Run(%s, %+v) = %+v", brief(c), r, got)
	}
}

func TestVerifyBounds(t *testing.T) {
	for _, x := range []struct {
		slots int
		text  string
		bound int
	}{
		{0, "deny", 0},
		{600, "deny", 0},
		{0, "attr 4; grant", 1},
		{0, "attr 4; attr 4; grant", 2},
		{0, "push 1; push 2; push 3; deny", 3},
		{0, "push 1; push 2; add; push 3; add; deny", 2},
		{0, "push 1; push 2; push 3; add; add; deny", 3},
		{1, "push 1; store 0; push 2; store 0; deny", 1},
		{1, "push 1; store 0; load 0; load 0; add; store 0; deny", 2},
		{0, "jump @a; @a; deny", 0},
		{0, "push true; unless @a; @a; deny", 1},
		// The highest state in one branch or the other, or where they meet.
		{0, "push true; unless @a; push 1; push 2; push 3; deny; @a; deny", 3},
		{0, "push true; unless @a; deny; @a; push 1; push 2; push 3; deny", 3},
		{0, "push true; unless @f; push 1; push 2; jump @e; @f; push 3; push 4; @e; add; push 5; push 6; deny", 3},
		{0, "push 1; push 2; push 3; push true; unless @a; deny; @a; deny", 4},
		// What is left on the stack when the run ends counts as long as it lasts.
		{0, "push 1; push 2; attr 4; grant", 3},
		{0, "push true; push 1; neg; push 2; eq; unless @a; deny; @a; deny", 3},
	} {
		wantVerify(t, assemble(x.slots, x.text), x.bound, impl.VOK)
	}
}

func TestVerifyWithoutInstructions(t *testing.T) {
	wantVerify(t, impl.Code{}, 0, impl.VEnd)
	wantVerify(t, impl.Code{Slots: maxStmts}, 0, impl.VEnd)
	wantVerify(t, impl.Code{Slots: 1, Pool: []impl.Value{{Kind: impl.TyInt, Num: 3}}, Ins: []impl.Ins{}}, 0, impl.VEnd)
	wantVerify(t, impl.Code{Slots: -1}, 0, impl.VShape)
}

func TestVerifyDead(t *testing.T) {
	for _, text := range []string{
		"deny; deny", "attr 4; grant; deny", "jump @a; deny; @a; deny", "deny; jump @a; @a; deny",
		"push true; unless @a; deny; deny; @a; deny",
		"push true; unless @a; deny; @a; deny; deny",
		"push true; unless @a; jump @b; @a; deny; deny; @b; deny",
		"jump @a; push 1; jump @b; @a; push 2; @b; deny",
	} {
		wantRefused(t, 0, text, impl.VDead)
	}
	// Each place is led to by one instruction alone.
	wantVerify(t, assemble(0, "push true; unless @a; jump @b; @a; deny; @b; deny"), 1, impl.VOK)
	wantVerify(t, assemble(0, "jump @a; @b; deny; @a; deny"), 0, impl.VDead)
}

func TestVerifyRange(t *testing.T) {
	for _, text := range []string{
		"push #0; deny", "push 1; push #1; deny", "push 1; push 2; push #2; deny", "push #65535; deny",
		"attr 6; deny", "attr 7; deny", "attr 65535; deny",
		"load 2; deny", "load 65535; deny", "push 1; store 2; deny", "push 1; store 65535; deny",
		// To its own place, backwards, and behind the last instruction.
		"jump 0; deny", "push 1; jump 1; deny", "push 1; jump 0; deny", "jump 2; deny", "jump 3; deny", "jump 65535; deny", "jump 1",
		"push true; unless 1; deny", "push true; unless 0; deny", "push true; unless 3; deny", "push true; unless 4; deny",
		"push true; unless 65535; deny", "push true; unless 2", "push true; push true; unless 1; deny",
		"push true; unless @a; deny; @a; jump 3", "push true; unless @a; deny; @a; jump 2", "push true; unless @a; deny; @a; jump 0",
	} {
		wantRefused(t, 2, text, impl.VRange)
	}
	wantRefused(t, 0, "load 0; deny", impl.VRange)
	wantRefused(t, 0, "push 1; store 0; deny", impl.VRange)
	wantRefused(t, 599, "push 1; store 599; deny", impl.VRange)
	for _, text := range []string{
		"push 1; store 1; load 1; deny", "attr 5; deny", "jump 1; deny", "push true; unless 2; deny", "push 1; store 0; deny",
	} {
		wantVerify(t, assemble(2, text), min(1, strings.Count(text, ";")-strings.Count(text, "jump")), impl.VOK)
	}
	wantVerify(t, assemble(600, "push 1; store 599; load 599; deny"), 1, impl.VOK)
	wantVerify(t, assemble(0, "push 1; push #0; push 2; push #1; deny"), 4, impl.VOK)
	// A jump over all there is to the last instruction.
	wantVerify(t, assemble(0, "push true; unless @z; deny; @z; deny"), 1, impl.VOK)
	wantVerify(t, assemble(0, "push true; unless @z; attr 4; grant; @z; deny"), 1, impl.VOK)
}

var samplesOf = map[int]string{impl.TyBool: "push true", impl.TyInt: "push 1", impl.TyText: `push "a"`, impl.TySet: "push {a}"}

func TestVerifyStack(t *testing.T) {
	enough := map[string]string{
		"store 0": "push 1", "neg": "push 1", "not": "push true", "size": "push {a}", "unless @a": "push true", "grant": "push {a}",
		"add": "push 1; push 1", "sub": "push 1; push 1", "mul": "push 1; push 1", "div": "push 1; push 1", "mod": "push 1; push 1",
		"union": "push {a}; push {a}", "meet": "push {a}; push {a}", "minus": "push {a}; push {a}", "eq": "push true; push true",
		"ne": `push "a"; push "a"`, "less": "push 1; push 1", "most": "push 1; push 1", "in": `push "a"; push {a}`, "within": "push {a}; push {a}",
	}
	if len(enough)+5 != len(insNames)-1 {
		t.Errorf("%d instructions pop", len(enough))
	}
	for ins, values := range enough {
		end := "; @a; deny"
		if ins == "grant" {
			end = ""
		}
		wantVerify(t, assemble(1, values+";"+ins+end), strings.Count(values, "push"), impl.VOK)
		wantRefused(t, 1, ins+end, impl.VStack)
		one, two, _ := strings.Cut(values, "; ")
		if two != "" {
			// One value where two are popped, as the left or the right one.
			wantRefused(t, 1, one+";"+ins+end, impl.VStack)
			wantRefused(t, 1, two+";"+ins+end, impl.VStack)
		}
	}
}

// Each instruction that takes values, on values of all types, with another value
// below that does not count.
func TestVerifyTypes(t *testing.T) {
	for name, effect := range effects {
		wanted, _, _ := strings.Cut(effect, ">")
		for _, left := range allTypes {
			for _, right := range allTypes {
				text, taken := `push "below"; `, ""
				for i, typ := range []int{left, right}[2-len(wanted):] {
					text += samplesOf[typ] + "; "
					taken += typeLetters[typ:][:1]
					if wanted[i] == 'T' {
						wanted = strings.Repeat(taken[:1], len(wanted))
					}
				}
				arg, end := "", "; @a; deny"
				switch name {
				case "jump", "unless":
					arg = " @a"
				case "grant", "deny":
					end = ""
				case "push":
					arg = " 7"
				case "attr", "store", "load":
					arg = " 0"
				}
				c := assemble(1, text+name+arg+end)
				_, got := impl.Verify(c)
				want := impl.VOK
				if taken != wanted {
					want = impl.VType
				} else if name == "load" {
					want = impl.VSlot
				}
				if got != want {
					t.Errorf("%s%s: %d, want %d", text, name, got, want)
				}
				verifyLikeSecond(t, c, plainRequest())
				wanted, _, _ = strings.Cut(effect, ">")
			}
		}
	}
}

func TestVerifySlots(t *testing.T) {
	for _, first := range allTypes {
		wantVerify(t, assemble(1, samplesOf[first]+"; store 0; load 0; load 0; eq; deny"), 2, impl.VOK)
		for _, second := range allTypes {
			text := samplesOf[first] + "; store 0; " + samplesOf[second] + "; store 0; deny"
			if first == second {
				wantVerify(t, assemble(1, text), 1, impl.VOK)
			} else {
				wantRefused(t, 1, text, impl.VType)
			}
			// Another slot has its own type.
			wantVerify(t, assemble(2, strings.Replace(text, "store 0", "store 1", 1)), 1, impl.VOK)
		}
	}
	wantRefused(t, 1, "load 0; deny", impl.VSlot)
	wantRefused(t, 2, "push 1; store 0; load 1; deny", impl.VSlot)
	wantRefused(t, 2, "push 1; store 1; load 0; deny", impl.VSlot)
	wantRefused(t, 1, "push true; unless @a; push 1; store 0; deny; @a; load 0; deny", impl.VSlot)
	wantVerify(t, assemble(1, "push true; unless @a; push 1; store 0; load 0; deny; @a; deny"), 1, impl.VOK)
	// A slot that is set keeps its type when it is loaded and set again.
	wantRefused(t, 1, "push 1; store 0; load 0; store 0; push true; store 0; deny", impl.VType)
	wantRefused(t, 1, "push {a}; store 0; load 0; neg; deny", impl.VType)
	// A branch of its own may set a slot to another type, if it does not come back.
	wantVerify(t, assemble(1, "push true; unless @a; push 1; store 0; deny; @a; push true; store 0; deny"), 1, impl.VOK)
}

func pushes(n int) string { return strings.Repeat("push 1; ", n) }

func TestVerifyHeight(t *testing.T) {
	for n := maxStack - 2; n <= maxStack; n++ {
		wantVerify(t, assemble(0, pushes(n)+"deny"), n, impl.VOK)
	}
	for _, text := range []string{
		pushes(101) + "deny", pushes(150) + "deny", pushes(100) + "attr 0; deny", pushes(100) + "push true; unless @a; deny; @a; deny",
		"push 1; store 0; " + pushes(100) + "load 0; deny", pushes(100) + "neg; push 1; deny", pushes(100) + "add; push 1; push 1; deny",
	} {
		wantRefused(t, 1, text, impl.VHeight)
	}
	for _, text := range []string{
		pushes(100) + "add; push 1; deny", pushes(100) + "neg; neg; deny", pushes(100) + "store 0; load 0; deny",
		pushes(99) + "push true; unless @a; deny; @a; push 1; deny", pushes(99) + "attr 4; grant", pushes(100) + "jump @a; @a; deny",
		"push 1; store 0; " + pushes(99) + "load 0; deny", "push true; unless @a; " + pushes(100) + "deny; @a; deny",
	} {
		wantVerify(t, assemble(1, text), maxStack, impl.VOK)
	}
}

func TestVerifyEnd(t *testing.T) {
	for _, text := range []string{
		"push 1", "attr 0", "push 1; store 0", "push 1; store 0; load 0", "push 1; neg", "push true; not", "push {}; size",
		"push 1; push 1; add", "push 1; push 1; sub", "push 1; push 1; mul", "push 1; push 1; div", "push 1; push 1; mod",
		"push {}; push {}; union", "push {}; push {}; meet", "push {}; push {}; minus", "push {}; push {}; eq", "push {}; push {}; ne",
		"push 1; push 1; less", "push 1; push 1; most", `push ""; push {}; in`, "push {}; push {}; within",
		"push true; unless @a; deny; @a; push 1", "jump @a; @a; attr 4", pushes(100),
	} {
		wantRefused(t, 1, text, impl.VEnd)
		if text != pushes(100) {
			c := assemble(1, text+"; deny")
			bound, _ := secondVerify(c)
			wantVerify(t, c, bound, impl.VOK)
		}
	}
}

// Both ways come to the place @e; the first by a jump, the second by going on.
func TestVerifyMerge(t *testing.T) {
	for _, x := range []struct {
		first, second string
		fits          bool
	}{
		{"push 1", "push 2", true},
		{"push 1", "push true; not", false},
		{"push 1", "push 1; push 1", false},
		{"push 1; push 1", "push 1", false},
		{"push 1; push 1; add", "push 1", true},
		{"push 1; push true", "push true; push 1", false},
		{"push 1; push true", "push true; push true", false},
		{"push 1; push true", "push 1; push true", true},
		{"push {}", `push ""`, false},
		{"attr 0", `push ""`, true},
		{"attr 4", "push {}; attr 5; union", true},
		// Slots: unset on one side, of another type, another one.
		{"push 1; store 0", "push 1; store 0", true},
		{"push 1; store 0; push 1", "push 1", false},
		{"push 1", "push 1; store 0; push 1", false},
		{"push 1; store 0", "push true; store 0", false},
		{"push 1; store 0", "push 1; store 1", false},
		{"push 1; store 1", "push 1; store 0", false},
		{"push 1; store 0; push true; store 1", "push true; store 1; push 1; store 0", true},
		{"push 1; store 0; push true; store 1", "push true; store 0; push 1; store 1", false},
		{"push 1; store 0; push 2; store 0", "push 1; store 0", true},
		{"push 1; store 2", "push 1; push 2; add; store 2", true},
		// A slot that is set already, to its own type again.
		{"push {}; store 3; push 1", "push 1", true},
		{"load 3; store 3", "push {a}; store 3", true},
		// Stacks and slots that differ both.
		{"push 1; store 0", "push 1", false},
	} {
		text := "push {}; store 3; push true; unless @f; " + x.first + "; jump @e; @f; " + x.second + "; @e; deny"
		c := assemble(4, text)
		if x.fits {
			bound, _ := secondVerify(c)
			wantVerify(t, c, bound, impl.VOK)
		} else {
			wantVerify(t, c, 0, impl.VMerge)
		}
	}
}

func TestVerifyMergeOfJumps(t *testing.T) {
	for text, wrong := range map[string]int{
		// The second jump, or the second unless, meets what the first has made known.
		"push true; unless @e; push 1; jump @e; @e; deny":                                                            impl.VMerge,
		"push true; unless @e; jump @e; @e; deny":                                                                    impl.VOK,
		"push true; push true; unless @e; unless @e; deny; @e; deny":                                                 impl.VMerge,
		"push true; unless @e; push true; unless @e; deny; @e; deny":                                                 impl.VOK,
		"push true; unless @e; push 1; push true; unless @e; deny; @e; deny":                                         impl.VMerge,
		"push true; unless @e; push 1; store 0; push true; unless @e; deny; @e; deny":                                impl.VMerge,
		"push true; unless @e; deny; @e; push true; unless @f; deny; @f; deny":                                       impl.VOK,
		"push true; unless @x; push 1; push true; unless @y; @x; deny; @y; deny":                                     impl.VMerge,
		"push true; unless @x; push true; unless @y; @x; deny; @y; deny":                                             impl.VOK,
		"push true; unless @x; push 1; push true; unless @y; neg; deny; @x; deny; @y; deny":                          impl.VOK,
		"push true; push true; unless @a; @a; unless @b; @b; deny":                                                   impl.VOK,
		"push 1; push true; unless @a; neg; jump @b; @a; neg; neg; @b; deny":                                         impl.VOK,
		"push 1; push true; unless @a; push 2; add; jump @b; @a; push 3; @b; deny":                                   impl.VMerge,
		"push true; unless @a; jump @c; @a; push true; unless @b; jump @c; @b; jump @c; @c; deny":                    impl.VOK,
		"push true; unless @a; jump @c; @a; push true; unless @b; jump @c; @b; attr 0; jump @c; @c; deny":            impl.VMerge,
		"push true; unless @a; jump @c; @a; push true; unless @b; attr 0; jump @c; @b; jump @c; @c; deny":            impl.VMerge,
		"push true; unless @a; attr 0; jump @c; @a; push true; unless @b; attr 0; jump @c; @b; jump @c; @c; deny":    impl.VMerge,
		"push true; unless @a; attr 0; jump @c; @a; push true; unless @b; attr 0; jump @c; @b; attr 1; @c; deny":     impl.VOK,
		"push true; unless @a; push 1; store 0; jump @c; @a; push true; store 0; deny; @c; load 0; neg; deny":        impl.VOK,
		"push true; unless @a; push 1; store 0; jump @c; @a; push true; store 0; jump @c; @c; load 0; deny":          impl.VMerge,
		"push true; unless @a; push 1; store 0; jump @c; @a; push 2; store 0; jump @c; @c; load 0; neg; deny":        impl.VOK,
		"push true; unless @a; push 1; store 0; jump @c; @a; push 2; store 0; jump @c; @c; push true; store 0; deny": impl.VType,
	} {
		c := assemble(1, text)
		bound, _ := secondVerify(c)
		wantVerify(t, c, bound, wrong)
	}
}

// Two lines fit one place at once; that which stands first in 6.5 is told.
func TestVerifyOrderAtOnePlace(t *testing.T) {
	full := "push 1; " + strings.Repeat("push #0; ", maxStack-1)
	for _, x := range []struct {
		text  string
		wrong int
	}{
		{"deny; push #9; deny", impl.VDead}, {"deny; not; deny", impl.VDead}, {"deny; load 0; deny", impl.VDead},
		{"deny; attr 0", impl.VDead}, {"deny; jump 1", impl.VDead}, {"deny; grant", impl.VDead},
		{"store 1; deny", impl.VRange}, {"unless 0; deny", impl.VRange}, {"unless 9; deny", impl.VRange},
		{"push 1; unless 1; deny", impl.VRange}, {"push 1; unless 3; deny", impl.VRange}, {"push 1; store 1; deny", impl.VRange},
		{"load 1; deny", impl.VRange}, {full + "push #1; deny", impl.VRange}, {full + "attr 6; deny", impl.VRange},
		{full + "load 1; deny", impl.VRange}, {"push #0", impl.VRange}, {"attr 6", impl.VRange}, {"load 1", impl.VRange},
		{"jump 1", impl.VRange}, {"push true; unless 2", impl.VRange}, {"push 1; store 1", impl.VRange},
		{"push true; add; deny", impl.VStack}, {"push true; in; deny", impl.VStack}, {"push 1; within; deny", impl.VStack},
		{"not", impl.VStack}, {"add", impl.VStack}, {"push true; add", impl.VStack}, {"store 0", impl.VStack}, {"push 1; eq", impl.VStack},
		{"push true; unless @e; unless @e; deny; @e; deny", impl.VStack},
		{"push true; neg", impl.VType}, {"push 1; push true; eq", impl.VType}, {"push 1; store 0; push true; store 0", impl.VType},
		{"push 1; push true; unless @e; unless @e; deny; @e; deny", impl.VType},
		{"push 1; store 0; push true; unless @a; push true; store 0; @a; deny", impl.VType},
		{full + "load 0; deny", impl.VSlot}, {full + "load 0", impl.VSlot}, {"load 0", impl.VSlot},
		{"push true; unless @a; load 0; @a; deny", impl.VSlot},
		{full + "push #0", impl.VHeight}, {full + "attr 0", impl.VHeight},
		{"push true; unless @a; " + full + "push 1; @a; deny", impl.VHeight},
		{"push true; unless @a; " + full + "@a; deny", impl.VMerge},
		{strings.TrimSuffix(full, "; "), impl.VEnd},
	} {
		wantRefused(t, 1, x.text, x.wrong)
	}
}

// Two places are wrong; the first one is told.
func TestVerifyOrderOfPlaces(t *testing.T) {
	pieces := map[string]int{
		"deny; deny":                         impl.VDead,
		"jump @; push 2; @; deny":            impl.VDead,
		"push #99":                           impl.VRange,
		"jump 0":                             impl.VRange,
		"attr 6":                             impl.VRange,
		"store 0; store 0; store 0; store 0": impl.VType,
		"push 1; not":                        impl.VType,
		"attr 4; neg":                        impl.VType,
		"load 1":                             impl.VSlot,
		pushes(101):                          impl.VHeight,
		"push true; unless @; push 1; @":     impl.VMerge,
		"push true; unless @; attr 1; store 1; @; load 0": impl.VMerge,
	}
	const ahead = "push true; store 0; push true; push 1; push true; push true; "
	for first, wrong := range pieces {
		for second := range pieces {
			text := ahead + strings.ReplaceAll(first, "@", "@a") + "; " + strings.ReplaceAll(second, "@", "@b")
			wantRefused(t, 2, text, wrong)
			wantRefused(t, 2, text+"; deny", wrong)
		}
		// What is told at the end comes behind all.
		wantRefused(t, 2, ahead+strings.ReplaceAll(first, "@", "@a")+"; push 1", wrong)
	}
}

// wrongShapes are codes without the right shape, each in one way.
func wrongShapes() map[string]impl.Code {
	wrong := map[string]impl.Code{}
	add := func(why string, do func(c *impl.Code)) {
		c := shapedCode()
		do(&c)
		wrong[why+" ("+strconv.Itoa(len(wrong))+")"] = c
	}
	values := []impl.Value{
		{}, {Kind: 5}, {Kind: -1}, {Kind: math.MaxInt}, {Kind: math.MinInt}, {Kind: 257}, {Num: 1}, {Text: "a"},
		{Kind: impl.TyBool, Num: 2}, {Kind: impl.TyBool, Num: -1}, {Kind: impl.TyBool, Num: 256}, {Kind: impl.TyBool, Num: 1 << 32},
		{Kind: impl.TyBool, Text: "a"}, {Kind: impl.TyBool, Names: []string{"a"}}, {Kind: impl.TyBool, Num: 1, Text: "true"},
		{Kind: impl.TyInt, Text: "a"}, {Kind: impl.TyInt, Num: 3, Text: "3"}, {Kind: impl.TyInt, Names: []string{"a"}},
		{Kind: impl.TyText, Num: 1}, {Kind: impl.TyText, Text: "a", Num: -1}, {Kind: impl.TyText, Text: "a", Names: []string{"a"}},
		{Kind: impl.TyText, Names: []string{"a"}}, {Kind: impl.TyText, Text: "A"}, {Kind: impl.TyText, Text: "a b"},
		{Kind: impl.TyText, Text: strings.Repeat("a", maxName+1)}, {Kind: impl.TyText, Text: strings.Repeat("a", 300)},
		{Kind: impl.TyText, Text: "\x00"}, {Kind: impl.TyText, Text: "a\xff"}, {Kind: impl.TyText, Text: "\""},
		{Kind: impl.TySet, Num: 1}, {Kind: impl.TySet, Num: 1, Names: []string{"a"}}, {Kind: impl.TySet, Text: "a"},
		{Kind: impl.TySet, Text: "a", Names: []string{"a"}},
	}
	for _, names := range wrongSets() {
		values = append(values, impl.Value{Kind: impl.TySet, Names: names})
	}
	for _, v := range values {
		for place := range shapedCode().Pool {
			add("a value", func(c *impl.Code) { c.Pool[place] = v })
		}
		add("a value at the end", func(c *impl.Code) { c.Pool = append(c.Pool, v) })
	}
	for _, slots := range []int{-1, -2, math.MinInt, maxStmts + 1, maxStmts + 2, 65536, 65536 + 3, math.MaxInt} {
		add("slots", func(c *impl.Code) { c.Slots = slots })
	}
	for _, op := range []int{0, -1, 26, 27, 256, 257, math.MaxInt, math.MinInt} {
		for place := range shapedCode().Ins {
			add("an Op", func(c *impl.Code) { c.Ins[place].Op = op })
			add("an Op without Arg", func(c *impl.Code) { c.Ins[place] = impl.Ins{Op: op} })
		}
	}
	for place, ins := range shapedCode().Ins {
		for _, arg := range []int{-1, -65536, math.MinInt, maxArg + 1, maxArg + 2, 1 << 17, 1 << 32, math.MaxInt} {
			add("an Arg", func(c *impl.Code) { c.Ins[place].Arg = arg })
		}
		if mostArg(ins.Op) == 0 {
			for _, arg := range []int{1, 2, 258, maxArg} {
				add("an Arg of none", func(c *impl.Code) { c.Ins[place].Arg = arg })
			}
		}
	}
	add("a value too many", func(c *impl.Code) { c.Pool = slices.Repeat([]impl.Value{{Kind: impl.TyInt}}, maxPool+1) })
	add("far too many values", func(c *impl.Code) { c.Pool = slices.Repeat([]impl.Value{{Kind: impl.TyInt}}, 1<<16+1) })
	add("an instruction too many", func(c *impl.Code) { c.Ins = slices.Repeat([]impl.Ins{{Op: impl.IDeny}}, maxIns+1) })
	add("far too many instructions", func(c *impl.Code) { c.Ins = slices.Repeat([]impl.Ins{{Op: impl.IDeny}}, 1<<16+1) })
	return wrong
}

func TestVerifyShape(t *testing.T) {
	for why, c := range wrongShapes() {
		if hasShape(c) {
			t.Errorf("%s: has the right shape", why)
		}
		if bound, wrong := impl.Verify(c); bound != 0 || wrong != impl.VShape {
			t.Errorf("%s: %d, %d", why, bound, wrong)
		}
		if got := impl.Run(c, plainRequest()); !sameTrace(got, badTrace()) {
			t.Errorf("%s: %+v", why, got)
		}
		// A wrong shape comes ahead of everything, also of what would be accepted.
		if len(c.Ins) == 25 && slices.Equal(c.Ins, shapedCode().Ins) {
			c.Ins = []impl.Ins{{Op: impl.IDeny}}
			if bound, wrong := impl.Verify(c); bound != 0 || wrong != impl.VShape {
				t.Errorf("%s, with a right instruction: %d, %d", why, bound, wrong)
			}
			c.Ins = nil
			if bound, wrong := impl.Verify(c); bound != 0 || wrong != impl.VShape {
				t.Errorf("%s, with no instruction: %d, %d", why, bound, wrong)
			}
		}
	}
}

// greatCodes are at the limits of 6.1, and right.
func greatCodes() map[string]impl.Code {
	wide := impl.Value{Kind: impl.TySet, Names: numberedNames(strings.Repeat("n", maxName-4), maxSet)}
	var jumps, stores []impl.Ins
	for at := range maxIns - 1 {
		jumps = append(jumps, impl.Ins{Op: impl.IJump, Arg: at + 1})
	}
	for at := range maxStmts {
		stores = append(stores, impl.Ins{Op: impl.IAttr, Arg: at % 6}, impl.Ins{Op: impl.IStore, Arg: at})
	}
	var branches []impl.Ins
	for len(branches)+4 < maxIns {
		at := len(branches)
		branches = append(branches, impl.Ins{Op: impl.IPush}, impl.Ins{Op: impl.IUnless, Arg: at + 3}, impl.Ins{Op: impl.IDeny})
	}
	deny := impl.Ins{Op: impl.IDeny}
	truths := []impl.Value{{Kind: impl.TyBool, Num: 1}, {Kind: impl.TyBool}}
	return map[string]impl.Code{
		"most values":       {Pool: slices.Repeat([]impl.Value{wide}, maxPool), Ins: []impl.Ins{{Op: impl.IPush, Arg: maxPool - 1}, {Op: impl.IGrant}}},
		"most instructions": {Ins: append(jumps, deny)},
		"most slots":        {Slots: maxStmts, Ins: append(slices.Clone(stores), deny)},
		"most branches":     {Pool: []impl.Value{truths[1]}, Slots: maxStmts, Ins: append(append(stores, shifted(branches[:maxIns-2000], len(stores))...), deny)},
		"no way through":    {Pool: truths, Ins: append(branches, deny)},
		"longest text":      {Pool: []impl.Value{{Kind: impl.TyText, Text: strings.Repeat("z", maxName)}}, Ins: []impl.Ins{{Op: impl.IPush}, deny}},
	}
}

// shifted moves jumps on that lead from a piece of code into itself.
func shifted(code []impl.Ins, by int) []impl.Ins {
	var out []impl.Ins
	for _, ins := range code {
		if insNames[ins.Op] == "jump" || insNames[ins.Op] == "unless" {
			ins.Arg += by
		}
		out = append(out, ins)
	}
	return out
}

func TestVerifyAtTheLimits(t *testing.T) {
	for why, c := range greatCodes() {
		if wrong := verifyLikeSecond(t, c, plainRequest()); wrong != impl.VOK {
			t.Errorf("%s: %d", why, wrong)
		}
	}
}

// growCodes hands on all codes of up to so many instructions of a choice.
func growCodes(most int, choice []impl.Ins, do func(code []impl.Ins)) {
	var grow func(code []impl.Ins)
	grow = func(code []impl.Ins) {
		do(code)
		if len(code) == most {
			return
		}
		for _, ins := range choice {
			grow(append(slices.Clone(code), ins))
		}
	}
	grow(nil)
}

func TestVerifyAllSmallCodes(t *testing.T) {
	pool := assemble(0, `push true; push 1; push "a"; push {a}`).Pool
	choice := assemble(0, `push #0; push #1; push #2; push #3; jump 1; jump 2; jump 3; jump 4; unless 1; unless 2; unless 3; unless 4
		load 0; store 0; not; add; eq; in; deny; grant`).Ins
	counts := map[int]int{}
	growCodes(4, choice, func(code []impl.Ins) {
		counts[verifyLikeSecond(t, impl.Code{Pool: pool, Slots: 1, Ins: code}, plainRequest())]++
	})
	for _, wrong := range []int{impl.VOK, impl.VDead, impl.VRange, impl.VStack, impl.VType, impl.VSlot, impl.VEnd, impl.VMerge} {
		if counts[wrong] < 20 {
			t.Errorf("what was told: %v", counts)
		}
	}
}

// Fewer instructions, but enough of them that states meet in many ways.
func TestVerifyAllSmallBranches(t *testing.T) {
	pool := assemble(0, `push true; push 1`).Pool
	choice := assemble(0, "push #1; unless 3; unless 4; unless 5; jump 5; jump 6; load 0; store 0; deny").Ins
	ahead := assemble(0, "push true").Ins
	counts := map[int]int{}
	growCodes(6, choice, func(code []impl.Ins) {
		counts[verifyLikeSecond(t, impl.Code{Pool: pool, Slots: 1, Ins: append(slices.Clone(ahead), code...)})]++
	})
	for _, wrong := range []int{impl.VOK, impl.VDead, impl.VRange, impl.VStack, impl.VType, impl.VSlot, impl.VEnd, impl.VMerge} {
		if counts[wrong] < 20 {
			t.Errorf("what was told: %v", counts)
		}
	}
}

// codeRandom makes codes by chance of which most are accepted, with more than a
// compiler writes: slots that are set anywhere, values that are left, early ends.
type codeRandom struct {
	random *rand.Rand
	pool   []impl.Value
	code   []impl.Ins
	state  secondState
}

func (g *codeRandom) add(name string, arg int) int {
	g.code = append(g.code, impl.Ins{Op: slices.Index(insNames, name), Arg: arg})
	return len(g.code) - 1
}

// step writes an instruction, if it can stand here, and keeps the state behind it.
func (g *codeRandom) step(name string, arg int) bool {
	c := impl.Code{Pool: g.pool, Slots: len(g.state.slots), Ins: []impl.Ins{{Op: slices.Index(insNames, name), Arg: arg}, {Op: impl.IDeny}}}
	behind, wrong := secondStep(c, 0, g.state)
	if wrong != impl.VOK {
		return false
	}
	g.add(name, arg)
	g.state = behind
	return true
}

func (g *codeRandom) any() {
	names := []string{"push", "push", "attr", "load", "store", "neg", "not", "size", "add", "sub", "mul", "div", "mod",
		"union", "meet", "minus", "eq", "ne", "less", "most", "in", "within"}
	name := names[g.random.Intn(len(names))]
	arg := 0
	switch name {
	case "push":
		arg = g.random.Intn(len(g.pool))
	case "attr":
		arg = g.random.Intn(6)
	case "load", "store":
		arg = g.random.Intn(len(g.state.slots) + 1)
	}
	g.step(name, arg)
}

// value pushes a value of the type that the letter says.
func (g *codeRandom) value(letter byte) {
	for {
		place := g.random.Intn(len(g.pool))
		if typeLetters[g.pool[place].Kind] == letter {
			g.step("push", place)
			return
		}
	}
}

func (g *codeRandom) truth() bool {
	if !strings.HasSuffix(g.state.stack, "b") {
		g.value('b')
	}
	return strings.HasSuffix(g.state.stack, "b")
}

func (g *codeRandom) end() {
	if g.random.Intn(2) == 0 || len(g.state.stack) >= maxStack {
		g.add("deny", 0)
		return
	}
	if !strings.HasSuffix(g.state.stack, "s") {
		g.value('s')
	}
	g.add("grant", 0)
}

// branch writes two ways, of which the first ends, or both do the same to the state.
func (g *codeRandom) branch(depth int) {
	if len(g.state.stack) > maxStack-20 || !g.truth() {
		return
	}
	unless := g.add("unless", 0)
	g.state.stack = g.state.stack[:len(g.state.stack)-1]
	ahead := g.state
	if g.random.Intn(2) == 0 {
		g.block(depth - 1)
		g.end()
		g.code[unless].Arg = len(g.code)
		g.state = ahead
		return
	}
	letter := typeLetters[1+g.random.Intn(4)]
	slot := g.random.Intn(len(g.state.slots) + 1)
	g.value(letter)
	g.step("store", slot)
	jump := g.add("jump", 0)
	g.code[unless].Arg = len(g.code)
	g.state = ahead
	g.value(letter)
	g.step("store", slot)
	g.code[jump].Arg = len(g.code)
}

func (g *codeRandom) block(depth int) {
	for range g.random.Intn(12) {
		if depth > 0 && g.random.Intn(5) == 0 {
			g.branch(depth)
		} else {
			g.any()
		}
	}
}

func randomCode(random *rand.Rand) impl.Code {
	g := codeRandom{random: random, pool: assemble(0, `push true; push false; push 0; push 1; push -1; push 9223372036854775807
		push -9223372036854775808; push ""; push "a"; push "app"; push {}; push {a}; push {a,app}; push {b,n0000}`).Pool}
	g.pool = append(g.pool, impl.Value{Kind: impl.TySet, Names: numberedNames("n", maxSet)})
	slots := random.Intn(4)
	g.state.slots = strings.Repeat("-", slots)
	for range 1 + random.Intn(3) {
		g.block(3)
	}
	g.end()
	return impl.Code{Pool: g.pool, Slots: slots, Ins: g.code}
}

func spoilCode(random *rand.Rand, c impl.Code) impl.Code {
	c = copyCode(c)
	at := random.Intn(len(c.Ins))
	switch random.Intn(8) {
	case 0:
		c.Ins = slices.Delete(c.Ins, at, at+1)
	case 1:
		c.Ins = slices.Insert(c.Ins, at, c.Ins[random.Intn(len(c.Ins))])
	case 2:
		c.Ins[at].Op = random.Intn(27)
	case 3, 4:
		c.Ins[at].Arg += random.Intn(5) - 2
	case 5:
		other := random.Intn(len(c.Ins))
		c.Ins[at], c.Ins[other] = c.Ins[other], c.Ins[at]
	case 6:
		c.Slots += random.Intn(3) - 1
	case 7:
		c.Ins[at] = impl.Ins{Op: 1 + random.Intn(25), Arg: random.Intn(len(c.Ins) + 1)}
		if mostArg(c.Ins[at].Op) == 0 {
			c.Ins[at].Arg = 0
		}
	}
	return c
}

func TestVerifyManyCodes(t *testing.T) {
	random := rand.New(rand.NewSource(92))
	counts := map[int]int{}
	for range 40000 {
		c := randomCode(random)
		for range random.Intn(3) {
			if len(c.Ins) > 0 {
				c = spoilCode(random, c)
			}
		}
		counts[verifyLikeSecond(t, c, someRequest(random), plainRequest())]++
	}
	for _, wrong := range []int{
		impl.VOK, impl.VShape, impl.VDead, impl.VRange, impl.VStack, impl.VType, impl.VSlot, impl.VEnd, impl.VMerge,
	} {
		if counts[wrong] < 50 {
			t.Errorf("what was told: %v", counts)
		}
	}
}

func TestVerifySpoiltCompiledCodes(t *testing.T) {
	random := rand.New(rand.NewSource(93))
	counts := map[int]int{}
	for range 20000 {
		g := typedRandom{random: random}
		c := spoilCode(random, impl.Compile(typedLines(g.lines(5, 4))))
		counts[verifyLikeSecond(t, c, someRequest(random))]++
	}
	for _, wrong := range []int{
		impl.VOK, impl.VShape, impl.VDead, impl.VRange, impl.VStack, impl.VType, impl.VSlot, impl.VEnd, impl.VMerge,
	} {
		if counts[wrong] < 20 {
			t.Errorf("what was told: %v", counts)
		}
	}
}
