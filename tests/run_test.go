package tests

import (
	"math"
	"math/rand"
	"strings"
	"testing"

	"loop.example/s01308/impl"
)

func wantRun(t *testing.T, c impl.Code, r impl.Request, want impl.Trace) {
	t.Helper()
	if got := impl.Run(c, r); !sameTrace(got, want) {
		t.Errorf("Run(%s, %+v) = %+v, want %+v", brief(c), r, got, want)
	}
	if second := secondRun(c, r); !sameTrace(second, want) {
		t.Errorf("%s is run once more to %+v, not %+v", brief(c), second, want)
	}
}

// The request is that of plainRequest: app, ann, 2, 100, {a, b}, {b, c}.
func TestRunByHand(t *testing.T) {
	for _, x := range []struct {
		text  string
		out   impl.Outcome
		steps int
		peak  int
	}{
		{"deny", denied(), 1, 0},
		{"jump @a; @a; deny", denied(), 2, 0},
		{"attr 4; grant", granted("a", "b"), 2, 1},
		{"attr 5; grant", granted("b", "c"), 2, 1},
		{"push {}; grant", granted(), 2, 1},
		{"push {x,y}; grant", granted("x", "y"), 2, 1},
		{"attr 4; attr 5; grant", granted("b", "c"), 3, 2},
		{"attr 4; store 0; attr 5; store 0; load 0; grant", granted("b", "c"), 6, 1},
		{"attr 4; store 0; attr 5; store 1; load 0; grant", granted("a", "b"), 6, 1},
		{"attr 4; store 0; load 0; load 0; union; grant", granted("a", "b"), 6, 2},
		// The right value is the one on top.
		{"attr 4; attr 5; minus; grant", granted("a"), 4, 2},
		{"attr 5; attr 4; minus; grant", granted("c"), 4, 2},
		{"attr 4; attr 5; union; grant", granted("a", "b", "c"), 4, 2},
		{"attr 4; attr 5; meet; grant", granted("b"), 4, 2},
		{"push 7; attr 2; sub; push 5; eq; unless @a; deny; @a; attr 4; grant", denied(), 7, 2},
		{"attr 2; push 7; sub; push 5; eq; unless @a; deny; @a; attr 4; grant", granted("a", "b"), 8, 2},
		{"push 7; attr 2; div; push 3; ne; unless @a; deny; @a; attr 4; grant", granted("a", "b"), 8, 2},
		{"push 7; attr 2; mod; push 1; eq; unless @a; deny; @a; attr 4; grant", denied(), 7, 2},
		{"push 1; attr 2; less; unless @a; deny; @a; attr 4; grant", denied(), 5, 2},
		{"attr 2; push 1; less; unless @a; deny; @a; attr 4; grant", granted("a", "b"), 6, 2},
		{"attr 2; push 2; most; unless @a; deny; @a; attr 4; grant", denied(), 5, 2},
		{`push "a"; attr 4; in; unless @a; deny; @a; attr 4; grant`, denied(), 5, 2},
		{`push "c"; attr 4; in; unless @a; deny; @a; attr 4; grant`, granted("a", "b"), 6, 2},
		{"push {a}; attr 4; within; unless @a; deny; @a; attr 4; grant", denied(), 5, 2},
		{"attr 4; push {a}; within; unless @a; deny; @a; attr 4; grant", granted("a", "b"), 6, 2},
		{"attr 4; size; attr 2; eq; unless @a; deny; @a; attr 4; grant", denied(), 6, 2},
		{"attr 2; neg; push -2; eq; unless @a; deny; @a; attr 4; grant", denied(), 6, 2},
		{`attr 0; push "app"; eq; not; unless @a; deny; @a; attr 4; grant`, granted("a", "b"), 7, 2},
		{`attr 1; push "ann"; eq; unless @a; deny; @a; attr 4; grant`, denied(), 5, 2},
		{"attr 3; push 100; eq; unless @a; deny; @a; attr 4; grant", denied(), 5, 2},
		{"push 3; push 4; mul; push 12; eq; unless @a; deny; @a; attr 4; grant", denied(), 7, 2},
		{"push 3; push 4; add; push 7; eq; unless @a; deny; @a; attr 4; grant", denied(), 7, 2},
		// Ways that are taken and ways that are not.
		{"push true; unless @a; deny; @a; attr 4; grant", denied(), 3, 1},
		{"push false; unless @a; deny; @a; attr 4; grant", granted("a", "b"), 4, 1},
		{"push false; unless @a; @a; deny", denied(), 3, 1},
		{"push true; unless @a; @a; deny", denied(), 3, 1},
		{"push true; unless @a; push 1; push 2; push 3; deny; @a; deny", denied(), 6, 3},
		{"push false; unless @a; push 1; push 2; push 3; deny; @a; deny", denied(), 3, 1},
		{"push false; unless @f; push 1; jump @e; @f; push 2; @e; deny", denied(), 4, 1},
		{"push true; unless @f; push 1; jump @e; @f; push 2; @e; deny", denied(), 5, 1},
		{"push false; unless @z; attr 4; grant; @z; deny", denied(), 3, 1},
		// Heights that go up and down, and values that are left.
		{"push 1; push 2; push 3; add; add; deny", denied(), 6, 3},
		{"push 1; push 2; add; push 3; add; deny", denied(), 6, 2},
		{"push 1; push 2; push 3; push {z}; grant", granted("z"), 5, 4},
		{pushes(100) + "deny", denied(), 101, 100},
		// Errors: the values are popped, nothing is pushed, the step is counted.
		{"push 1; push 0; div; deny", failed(impl.EvalZero), 3, 2},
		{"push 1; push 0; mod; deny", failed(impl.EvalZero), 3, 2},
		{"push 0; push 1; div; deny", denied(), 4, 2},
		{"push 9223372036854775807; push 1; add; deny", failed(impl.EvalOverflow), 3, 2},
		{"push -9223372036854775808; push 1; sub; deny", failed(impl.EvalOverflow), 3, 2},
		{"push 9223372036854775807; push 2; mul; deny", failed(impl.EvalOverflow), 3, 2},
		{"push -9223372036854775808; push -1; div; deny", failed(impl.EvalOverflow), 3, 2},
		{"push -9223372036854775808; push -1; mod; deny", denied(), 4, 2},
		{"push -9223372036854775808; neg; deny", failed(impl.EvalOverflow), 2, 1},
		{"push 9223372036854775807; neg; neg; deny", denied(), 4, 1},
		{"push 5; push 1; push 0; div; deny", failed(impl.EvalZero), 4, 3},
		{"push 5; push 9; push 1; push 0; div; add; deny", failed(impl.EvalZero), 5, 4},
		{"push true; unless @a; push 1; push 0; div; deny; @a; deny", failed(impl.EvalZero), 5, 2},
		{"push false; unless @a; push 1; push 0; div; deny; @a; deny", denied(), 3, 1},
	} {
		c := assemble(2, x.text)
		wantRun(t, c, plainRequest(), impl.Trace{Out: x.out, Steps: x.steps, Peak: x.peak})
		bound, wrong := impl.Verify(c)
		if wrong != impl.VOK || bound < x.peak {
			t.Errorf("%s: %d, %d", x.text, bound, wrong)
		}
	}
}

func TestRunWideUnions(t *testing.T) {
	half := strings.Join(numberedNames("n", maxSet), ",")
	c := assemble(0, "push {"+half+"}; push {m0000}; union; grant")
	wantRun(t, c, plainRequest(), impl.Trace{Out: failed(impl.EvalWide), Steps: 3, Peak: 2})
	c = assemble(0, "push {"+half+"}; push {n0000}; union; grant")
	wantRun(t, c, plainRequest(), impl.Trace{Out: granted(numberedNames("n", maxSet)...), Steps: 4, Peak: 2})
	c = assemble(0, "attr 4; attr 5; union; grant")
	for n := maxSet - 3; n <= maxSet; n++ {
		r := plainRequest()
		r.Asked, r.Agreed = numberedNames("n", n), []string{"m1", "m2", "n0000"}
		want := impl.Trace{Out: failed(impl.EvalWide), Steps: 3, Peak: 2}
		if n+2 <= maxSet {
			want = impl.Trace{Out: granted(append([]string{"m1", "m2"}, r.Asked...)...), Steps: 4, Peak: 2}
		}
		wantRun(t, c, r, want)
	}
}

// Level and Now may be any number; each attribute is pushed as it is.
func TestRunAttributes(t *testing.T) {
	less := assemble(0, "attr 2; attr 3; less; unless @a; deny; @a; attr 4; grant")
	for _, level := range someNumbers {
		for _, now := range someNumbers {
			r := plainRequest()
			r.Level, r.Now = level, now
			want := impl.Trace{Out: granted("a", "b"), Steps: 6, Peak: 2}
			if level < now {
				want = impl.Trace{Out: denied(), Steps: 5, Peak: 2}
			}
			wantRun(t, less, r, want)
		}
	}
	same := assemble(0, "attr 0; attr 1; eq; unless @a; deny; @a; attr 4; grant")
	for _, client := range []string{"a", "b", "ab", strings.Repeat("a", maxName)} {
		for _, user := range []string{"a", "b", "ab", strings.Repeat("a", maxName)} {
			r := plainRequest()
			r.Client, r.User = client, user
			want := impl.Trace{Out: granted("a", "b"), Steps: 6, Peak: 2}
			if client == user {
				want = impl.Trace{Out: denied(), Steps: 5, Peak: 2}
			}
			wantRun(t, same, r, want)
		}
	}
}

// Values that are equal, and values of the same kind that nearly are.
func TestRunEqualities(t *testing.T) {
	for _, kind := range []string{
		"true false", "0 1 -1 2 256 9223372036854775807 -9223372036854775808",
		`"" "a" "b" "ab" "a.b"`, "{} {a} {b} {a,b} {ab} {a,c} {a,b,c}",
	} {
		for _, left := range strings.Fields(kind) {
			for _, right := range strings.Fields(kind) {
				yes, no := "eq", "ne"
				if left != right {
					yes, no = no, yes
				}
				ahead := "push " + left + "; push " + right + "; "
				wantRun(t, assemble(0, ahead+yes+"; unless @a; deny; @a; attr 4; grant"), plainRequest(), impl.Trace{Out: denied(), Steps: 5, Peak: 2})
				wantRun(t, assemble(0, ahead+no+"; unless @a; deny; @a; attr 4; grant"), plainRequest(),
					impl.Trace{Out: granted("a", "b"), Steps: 6, Peak: 2})
			}
		}
	}
}

func TestRunWrongArguments(t *testing.T) {
	right := []impl.Code{assemble(0, "deny"), assemble(0, "attr 4; grant"), assemble(0, "push 1; push 0; div; deny")}
	for why, r := range wrongRequests() {
		for _, c := range right {
			if got := impl.Run(c, r); !sameTrace(got, badTrace()) {
				t.Errorf("%s: %+v", why, got)
			}
		}
		if got := impl.Run(impl.Code{}, r); !sameTrace(got, badTrace()) {
			t.Errorf("%s, no code: %+v", why, got)
		}
	}
	for _, text := range []string{
		"", "push 1", "deny; deny", "attr 6; deny", "not; deny", "push 1; not; deny", "load 0; deny", pushes(101) + "deny",
		"push true; unless @a; push 1; @a; deny", "jump 0; deny", "attr 0; grant",
	} {
		if got := impl.Run(assemble(1, text), plainRequest()); !sameTrace(got, badTrace()) {
			t.Errorf("%s: %+v", text, got)
		}
	}
}

// The numbers at the ends, as they come from the request and from the pool.
func TestRunGreatNumbers(t *testing.T) {
	for _, op := range []string{"add", "sub", "mul", "div", "mod", "less", "most", "eq", "ne"} {
		c := assemble(1, "attr 2; attr 3; "+op+"; store 0; deny")
		for _, level := range someNumbers {
			for _, now := range append([]int64{math.MaxInt32, math.MinInt32, 7, -7}, someNumbers...) {
				r := plainRequest()
				r.Level, r.Now = level, now
				checkAccepted(t, c, r)
			}
		}
	}
}

func TestRunManyCodes(t *testing.T) {
	random := rand.New(rand.NewSource(94))
	kinds, codes := map[int]int{}, map[int]int{}
	longest, highest := 0, 0
	for range 15000 {
		c := randomCode(random)
		if _, wrong := secondVerify(c); wrong != impl.VOK {
			continue
		}
		requests := []impl.Request{someRequest(random), someRequest(random), plainRequest()}
		checkAccepted(t, c, requests...)
		for _, r := range requests {
			trace := impl.Run(c, r)
			kinds[trace.Out.Kind]++
			codes[trace.Out.Code]++
			longest, highest = max(longest, trace.Steps), max(highest, trace.Peak)
		}
	}
	for _, kind := range []int{impl.OutDeny, impl.OutGrant, impl.OutError} {
		if kinds[kind] < 500 {
			t.Errorf("kinds that came about: %v", kinds)
		}
	}
	for _, code := range []int{impl.EvalOverflow, impl.EvalZero, impl.EvalWide} {
		if codes[code] < 30 {
			t.Errorf("errors that came about: %v", codes)
		}
	}
	if longest < 25 || highest < 8 {
		t.Errorf("at most %d steps and %d values", longest, highest)
	}
}
