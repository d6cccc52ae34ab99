package tests

import (
	"bytes"
	"math/rand"
	"slices"
	"testing"

	"loop.example/s01308/impl"
)

// spareCode gives the code's lists room behind their ends.
func spareCode(c impl.Code) impl.Code {
	out := impl.Code{Pool: withRoom(c.Pool), Slots: c.Slots, Ins: withRoom(c.Ins)}
	for i := range out.Pool {
		out.Pool[i].Names = withRoom(out.Pool[i].Names)
	}
	return out
}

// wholeCode is the code with its lists up to their capacity.
func wholeCode(c impl.Code) impl.Code {
	out := impl.Code{Pool: slices.Clone(c.Pool[:cap(c.Pool)]), Slots: c.Slots, Ins: slices.Clone(c.Ins[:cap(c.Ins)])}
	for i, v := range out.Pool {
		out.Pool[i].Names = slices.Clone(v.Names[:cap(v.Names)])
	}
	return out
}

func overwriteCode(c impl.Code) {
	for _, v := range c.Pool[:cap(c.Pool)] {
		spoil(v.Names)
	}
	clear(c.Pool[:cap(c.Pool)])
	clear(c.Ins[:cap(c.Ins)])
}

// ownCode finds out lists of one answer that share memory.
func ownCode(t *testing.T, c impl.Code) {
	t.Helper()
	var names [][]string
	for _, v := range c.Pool {
		names = append(names, v.Names)
	}
	ownLists(t, nil, names)
}

func codesToGuard() []impl.Code {
	out := append(codesToSpoil(),
		assemble(0, "push {a,b}; grant"), assemble(1, "push {a,b}; store 0; push {a}; store 0; load 0; grant"),
		assemble(0, "attr 4; grant"), assemble(0, "attr 5; push {}; union; grant"), assemble(0, "push 1; push 0; div; deny"),
		assemble(0, "push {a,b}; push {a,b}; meet; grant"), assemble(0, "push {a,b}; push {}; minus; grant"),
		assemble(0, "push true; unless @a; push 1; @a; deny"), assemble(1, "load 0; deny"))
	random := rand.New(rand.NewSource(98))
	for range 300 {
		out = append(out, randomCode(random), randomShape(random))
	}
	for _, wrong := range wrongShapes() {
		if len(wrong.Pool) <= maxPool && len(wrong.Ins) <= maxIns {
			out = append(out, wrong)
		}
	}
	return out
}

func TestCodeArgumentsStay(t *testing.T) {
	requests := edgeRequests()
	for _, wrong := range wrongRequests() {
		requests = append(requests, wrong)
	}
	for i, c := range codesToGuard() {
		given := spareCode(c)
		kept := wholeCode(given)
		request := requests[i%len(requests)]
		asked, agreed := guard(request.Asked), guard(request.Agreed)
		request.Asked, request.Agreed = asked.list, agreed.list
		impl.Verify(given)
		spoilBytes(impl.EncodeCode(given))
		spoil(impl.Run(given, request).Out.Scopes)
		if !sameCode(wholeCode(given), kept) {
			t.Fatalf("%s was changed", brief(c))
		}
		asked.check(t, "asked")
		agreed.check(t, "agreed")
	}
}

func spoilBytes(b []byte) {
	for i := range b[:cap(b)] {
		b[:cap(b)][i] = 'S'
	}
}

// What was answered stays when the arguments are changed behind the call.
func TestCodeAnswersStay(t *testing.T) {
	for _, c := range codesToGuard() {
		given, request := spareCode(c), plainRequest()
		encoded, trace := impl.EncodeCode(given), impl.Run(given, request)
		keptBytes, keptScopes := slices.Clone(encoded), slices.Clone(trace.Out.Scopes)
		overwriteCode(given)
		spoil(request.Asked)
		spoil(request.Agreed)
		if !bytes.Equal(encoded, keptBytes) || !slices.Equal(trace.Out.Scopes, keptScopes) {
			t.Fatalf("the answers for %s became %q and %+v", brief(c), encoded, trace)
		}
		again := impl.Run(spareCode(c), plainRequest())
		if !slices.Equal(again.Out.Scopes, keptScopes) || !bytes.Equal(impl.EncodeCode(spareCode(c)), keptBytes) {
			t.Fatalf("%s gets two answers", brief(c))
		}
	}
}

func TestCompiledPoliciesStay(t *testing.T) {
	for _, typed := range typedToGuard(t) {
		given := spareTyped(typed)
		kept := wholeTyped(given)
		code := impl.Compile(given)
		if !sameTyped(wholeTyped(given), kept) {
			t.Fatalf("%s was changed", brief(typed))
		}
		keptCode := copyCode(code)
		overwriteTyped(given)
		if !sameCode(code, keptCode) {
			t.Fatalf("%s shares memory with its code", brief(typed))
		}
		ownCode(t, code)
		overwriteCode(code)
		if again := impl.Compile(spareTyped(typed)); !sameCode(again, keptCode) {
			t.Fatalf("%s is compiled to %s, it was %s", brief(typed), brief(again), brief(keptCode))
		}
	}
}

func TestDecodedBytesStay(t *testing.T) {
	var all [][]byte
	for _, c := range codesToGuard() {
		b := impl.EncodeCode(c)
		all = append(all, b, b[:len(b)/2], append(slices.Clone(b), 0))
	}
	for _, b := range all {
		given := withRoom(b)
		kept := slices.Clone(given[:cap(given)])
		code, ok := impl.DecodeCode(given)
		if !bytes.Equal(given[:cap(given)], kept) {
			t.Fatalf("%q was changed", b)
		}
		keptCode := copyCode(code)
		spoilBytes(given)
		if !sameCode(code, keptCode) {
			t.Fatalf("%q shares memory with its code", b)
		}
		ownCode(t, code)
		overwriteCode(code)
		if again, okAgain := impl.DecodeCode(b); ok != okAgain || !sameCode(again, keptCode) {
			t.Fatalf("%q is decoded as %s, it was %s", b, brief(again), brief(keptCode))
		}
	}
}

// A grant may be the request's own set, the pool's, or a slot's; none is handed out.
func TestScopesOfRunsAreNewMemory(t *testing.T) {
	for _, text := range []string{
		"attr 4; grant", "attr 5; grant", "push {a,b}; grant", "attr 4; store 0; load 0; grant", "push {a,b}; store 0; load 0; grant",
		"attr 4; push {}; union; grant", "attr 4; push {}; minus; grant", "attr 4; attr 4; meet; grant",
		"push true; unless @a; attr 4; grant; @a; deny",
	} {
		c, request := assemble(1, text), plainRequest()
		want := impl.Run(c, request)
		want.Out.Scopes = slices.Clone(want.Out.Scopes)
		spoil(impl.Run(c, request).Out.Scopes)
		if got := impl.Run(c, request); len(want.Out.Scopes) == 0 || !sameTrace(got, want) {
			t.Errorf("%s: %+v, it was %+v", text, got, want)
		}
	}
}
