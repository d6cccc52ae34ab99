package tests

import (
	"math"
	"slices"
	"strconv"
	"strings"
	"testing"

	"loop.example/s01308/impl"
)

// readyOps is what ready does, and a token x, as operations.
func readyOps() []impl.Op {
	return []impl.Op{
		{Kind: impl.KInstall, Text: grantAsked},
		{Kind: impl.KClient, Name: "app", Text: "a,b"},
		{Kind: impl.KConsent, Name: "ann", Other: "app", Text: "a,b"},
		{Kind: impl.KToken, Name: "x", Text: askAB[1:]},
	}
}

func readyReplies(more ...impl.Reply) []impl.Reply {
	return append([]impl.Reply{done(0), done(2), done(2), done(tokenLife, "a", "b")}, more...)
}

// wantBehindReady plays one operation behind readyOps.
func wantBehindReady(t *testing.T, op impl.Op, want impl.Reply) {
	t.Helper()
	got := checkPlay(t, append(readyOps(), op))
	if !sameReplies(got, readyReplies(want)) {
		t.Errorf("%+v: %+v, want %+v at the end", op, got, want)
	}
}

// nameCases are texts, and whether they are names.
func nameCases() map[string]bool {
	long := strings.Repeat("n", maxName)
	return map[string]bool{
		"a": true, "0": true, ".": true, "_": true, "-": true, ":": true, "z9._-:": true, long: true,
		"": false, " ": false, "A": false, "a b": false, "a,b": false, "a\n": false, "\n": false, "\x00": false, "é": false,
		"\xff": false, "a/b": false, "a;": false, "x=": false, "\"a\"": false, long + "n": false,
		strings.Repeat("n", 100000): false,
	}
}

func TestNamesOfOperations(t *testing.T) {
	for name, valid := range nameCases() {
		pick := func(reply impl.Reply) impl.Reply {
			if !valid {
				return refused(impl.RMalformed)
			}
			return reply
		}
		wantBehindReady(t, impl.Op{Kind: impl.KClient, Name: name, Text: "a"}, pick(done(1)))
		wantBehindReady(t, impl.Op{Kind: impl.KConsent, Name: name, Other: "app", Text: "a"}, pick(done(1)))
		wantBehindReady(t, impl.Op{Kind: impl.KConsent, Name: "ann", Other: name, Text: "a"}, pick(refused(impl.RClient)))
		wantBehindReady(t, impl.Op{Kind: impl.KWithdraw, Name: name, Other: "app"}, pick(refused(impl.RUnknown)))
		wantBehindReady(t, impl.Op{Kind: impl.KWithdraw, Name: "ann", Other: name}, pick(refused(impl.RUnknown)))
		wantBehindReady(t, impl.Op{Kind: impl.KToken, Name: name, Text: askA[1:]}, pick(done(tokenLife, "a")))
		wantBehindReady(t, impl.Op{Kind: impl.KLook, Name: name}, pick(refused(impl.RUnknown)))
		wantBehindReady(t, impl.Op{Kind: impl.KRevoke, Name: name}, pick(refused(impl.RUnknown)))
	}
}

// A name that is wrong is so whatever else is wrong.
func TestMalformedAheadOfAllElse(t *testing.T) {
	for _, op := range []impl.Op{
		{Kind: impl.KClient, Name: "A", Text: "a,"},
		{Kind: impl.KClient},
		{Kind: impl.KConsent, Name: "A", Other: "none", Text: "a"},
		{Kind: impl.KConsent, Name: "ann", Other: "none", Text: "a,"},
		{Kind: impl.KConsent, Name: "ann", Other: "None", Text: "a"},
		{Kind: impl.KConsent},
		{Kind: impl.KWithdraw, Name: "A", Other: "none"},
		{Kind: impl.KWithdraw, Name: "ann"},
		{Kind: impl.KWithdraw},
		{Kind: impl.KToken, Name: "x", Text: "client=app user=ann level=0 ask=A"},
		{Kind: impl.KToken, Name: "X", Text: "client=none user=ann level=0 ask=a"},
		{Kind: impl.KToken, Name: "y"},
		{Kind: impl.KToken, Text: askA[1:]},
		{Kind: impl.KToken},
		{Kind: impl.KLook},
		{Kind: impl.KRevoke},
	} {
		wantBehindReady(t, op, refused(impl.RMalformed))
		if got := checkPlay(t, []impl.Op{op}); !sameReplies(got, []impl.Reply{refused(impl.RMalformed)}) {
			t.Errorf("%+v at first: %+v", op, got)
		}
	}
}

// listCases are texts with the number of scopes that they have, -1 for no list.
func listCases() map[string]int {
	names := numberedNames("n", maxSet+1)
	turned := slices.Clone(names[:maxSet])
	slices.Reverse(turned)
	join := func(names []string) string { return strings.Join(names, ",") }
	return map[string]int{
		"": 0, "a": 1, "b,a": 2, "a,b": 2, "a,a": 1, "c,a,b,a,c": 3, "b,b,b": 1,
		",": -1, "a,": -1, ",a": -1, "a,,b": -1, ",,": -1, " ": -1, "a b": -1, "a, b": -1, " a": -1, "a ": -1, "A": -1, "a,B": -1,
		"a\n": -1, "a;b": -1, "{}": -1, "\xff": -1,
		join(names[:maxSet]): maxSet, join(turned): maxSet, join(names): -1,
		join(slices.Repeat(names[:40], maxList/40)):           40,
		join(slices.Repeat([]string{"a"}, maxList)):           1,
		join(slices.Repeat([]string{"a"}, maxList+1)):         -1,
		strings.Repeat("n", maxName):                          1,
		strings.Repeat("n", maxName+1):                        -1,
		strings.Repeat(",", 100000):                           -1,
		join(slices.Repeat(names[:maxSet], maxList/maxSet)):   maxSet,
		join(slices.Repeat(names[:maxSet], maxList/maxSet+1)): -1,
	}
}

func TestListsOfOperations(t *testing.T) {
	for list, size := range listCases() {
		want := refused(impl.RMalformed)
		if size >= 0 {
			want = done(int64(size))
		}
		wantBehindReady(t, impl.Op{Kind: impl.KClient, Name: "app", Text: list}, want)
		wantBehindReady(t, impl.Op{Kind: impl.KClient, Name: "new", Text: list}, want)
		wantBehindReady(t, impl.Op{Kind: impl.KConsent, Name: "ann", Other: "app", Text: list}, want)
		wantBehindReady(t, impl.Op{Kind: impl.KConsent, Name: "bob", Other: "app", Text: list}, want)
	}
}

// A list that is refused leaves what was registered and agreed to as it was.
func TestRefusedListsChangeNothing(t *testing.T) {
	for list, size := range listCases() {
		if size >= 0 {
			continue
		}
		got := checkPlay(t, append(readyOps(),
			impl.Op{Kind: impl.KClient, Name: "app", Text: list},
			impl.Op{Kind: impl.KConsent, Name: "ann", Other: "app", Text: list},
			impl.Op{Kind: impl.KToken, Name: "y", Text: askAB[1:]}))
		if want := readyReplies(refused(impl.RMalformed), refused(impl.RMalformed), done(tokenLife, "a", "b")); !sameReplies(got, want) {
			t.Errorf("%q: %+v, want %+v", list, got, want)
		}
	}
}

// The scopes are told as a set, however the lists were written.
func TestScopesOfWideLists(t *testing.T) {
	names := numberedNames("n", maxSet)
	turned := slices.Clone(names)
	slices.Reverse(turned)
	list := strings.Join(append(turned, names[:9]...), ",")
	got := checkPlay(t, []impl.Op{
		{Kind: impl.KInstall, Text: "else grant agreed | asked;"},
		{Kind: impl.KClient, Name: "app", Text: list},
		{Kind: impl.KConsent, Name: "ann", Other: "app", Text: list},
		{Kind: impl.KToken, Name: "x", Text: "client=app user=ann level=0 ask=" + list},
		{Kind: impl.KLook, Name: "x"},
	})
	want := []impl.Reply{done(0), done(maxSet), done(maxSet), done(tokenLife, names...), {Code: impl.RActive, Num: tokenLife, Scopes: names}}
	if !sameReplies(got, want) {
		t.Errorf("%+v, want %+v", got, want)
	}
}

func TestAsksOfOperations(t *testing.T) {
	wide := strings.Join(numberedNames("n", maxSet+1), ",")
	for text, want := range map[string]impl.Reply{
		"client=app user=ann level=0 ask=a":                                             done(tokenLife, "a"),
		"client=app user=ann level=9999999 ask=b,a,b":                                   done(tokenLife, "a", "b"),
		"client=app user=ann level=0 ask=":                                              refused(impl.RNothing),
		"client=app user=bob level=0 ask=a":                                             refused(impl.RNothing),
		"client=web user=ann level=0 ask=a":                                             refused(impl.RClient),
		"":                                                                              refused(impl.RMalformed),
		"client=app":                                                                    refused(impl.RMalformed),
		"client=app user=ann level=0":                                                   refused(impl.RMalformed),
		"client=app user=ann level=0 ask":                                               refused(impl.RMalformed),
		" client=app user=ann level=0 ask=a":                                            refused(impl.RMalformed),
		"client=app user=ann level=0 ask=a ":                                            refused(impl.RMalformed),
		"client=app  user=ann level=0 ask=a":                                            refused(impl.RMalformed),
		"client=App user=ann level=0 ask=a":                                             refused(impl.RMalformed),
		"client= user=ann level=0 ask=a":                                                refused(impl.RMalformed),
		"client=app user= level=0 ask=a":                                                refused(impl.RMalformed),
		"client=app user=ann level= ask=a":                                              refused(impl.RMalformed),
		"client=app user=ann level=00 ask=a":                                            refused(impl.RMalformed),
		"client=app user=ann level=01 ask=a":                                            refused(impl.RMalformed),
		"client=app user=ann level=-1 ask=a":                                            refused(impl.RMalformed),
		"client=app user=ann level=+1 ask=a":                                            refused(impl.RMalformed),
		"client=app user=ann level=10000000 ask=a":                                      refused(impl.RMalformed),
		"client=app user=ann level=0 ask=a,":                                            refused(impl.RMalformed),
		"client=app user=ann level=0 ask=,":                                             refused(impl.RMalformed),
		"client=app user=ann level=0 ask=a\n":                                           refused(impl.RMalformed),
		"client=app user=ann level=0 ask=" + wide:                                       refused(impl.RMalformed),
		"client=app user=ann level=0 ask=" + wide[:len(wide)-6]:                         refused(impl.RNothing),
		askOfLength(maxText):                                                            refused(impl.RClient),
		askOfLength(maxText + 1):                                                        refused(impl.RMalformed),
		"client=app user=ann level=0 ask=a" + strings.Repeat(",a", maxList-1):           done(tokenLife, "a"),
		"client=app user=ann level=0 ask=a" + strings.Repeat(",a", maxList):             refused(impl.RMalformed),
		"client=" + strings.Repeat("c", maxName) + " user=ann level=0 ask=":             refused(impl.RClient),
		"client=" + strings.Repeat("c", maxName+1) + " user=ann level=0 ask=":           refused(impl.RMalformed),
		"client=app user=" + strings.Repeat("u", maxName) + " level=0 ask=a":            refused(impl.RNothing),
		"client=app user=" + strings.Repeat("u", maxName+1) + " level=0 ask=a":          refused(impl.RMalformed),
		"client=app user=ann level=0 ask=" + strings.Repeat("s", maxName):               refused(impl.RNothing),
		"client=app user=ann level=0 ask=" + strings.Repeat("s", maxName+1):             refused(impl.RMalformed),
		"client=app user=ann level=0 ask=" + strings.Repeat("s", 100000):                refused(impl.RMalformed),
		"client=app user=ann level=0 ask=a more=1":                                      refused(impl.RMalformed),
		"client=app user=ann ask=a level=0":                                             refused(impl.RMalformed),
		"client=app user=ann level=0 ask=a client=app user=ann level=0 ask=a":           refused(impl.RMalformed),
		"CLIENT=app USER=ann LEVEL=0 ASK=a":                                             refused(impl.RMalformed),
		"client=app user=ann level=0 ask=a;b":                                           refused(impl.RMalformed),
		"client=app\tuser=ann\tlevel=0\task=a":                                          refused(impl.RMalformed),
		impl.FormatAsk(impl.Ask{Client: "app", User: "ann", Asked: []string{"a", "b"}}): done(tokenLife, "a", "b"),
	} {
		wantBehindReady(t, impl.Op{Kind: impl.KToken, Name: "y", Text: text}, want)
	}
}

// Fields that an operation does not name may hold anything.
func TestFieldsThatAreNotNamed(t *testing.T) {
	plain := append(readyOps(),
		impl.Op{Kind: impl.KLook, Name: "x"}, impl.Op{Kind: impl.KTick, Num: 5}, impl.Op{Kind: impl.KRevoke, Name: "x"},
		impl.Op{Kind: impl.KWithdraw, Name: "ann", Other: "app"}, impl.Op{Kind: impl.KWithdraw, Name: "ann", Other: "app"},
		impl.Op{Kind: impl.KToken, Name: "y", Text: askA[1:]}, impl.Op{Kind: impl.KTick, Num: maxTick}, impl.Op{Kind: impl.KTick})
	want := readyReplies(
		impl.Reply{Code: impl.RActive, Num: tokenLife, Scopes: []string{"a", "b"}}, done(5), done(0),
		done(0), refused(impl.RUnknown), refused(impl.RNothing), done(5+maxTick), done(5+maxTick))
	if got := checkPlay(t, plain); !sameReplies(got, want) {
		t.Fatalf("%+v, want %+v", got, want)
	}
	for _, text := range []string{"x", "A", "app", "a,b", "a,", "else deny;", "\xff", strings.Repeat("x", maxText+1)} {
		for _, num := range []int64{1, -1, 1000, math.MaxInt64, math.MinInt64} {
			filled := slices.Clone(plain)
			for i := range filled {
				filled[i] = withOthers(filled[i], text, num)
			}
			if got := checkPlay(t, filled); !sameReplies(got, want) {
				t.Fatalf("filled with %q and %d: %+v, want %+v", text, num, got, want)
			}
		}
	}
}

// withOthers fills the fields that an operation of this kind does not name.
func withOthers(op impl.Op, text string, num int64) impl.Op {
	named := map[int]string{
		impl.KInstall: "Text", impl.KClient: "Name Text", impl.KConsent: "Name Other Text", impl.KWithdraw: "Name Other",
		impl.KToken: "Name Text", impl.KLook: "Name", impl.KRevoke: "Name", impl.KTick: "Num",
	}[op.Kind]
	for field, place := range map[string]*string{"Name": &op.Name, "Other": &op.Other, "Text": &op.Text} {
		if !strings.Contains(named, field) {
			*place = text
		}
	}
	if !strings.Contains(named, "Num") {
		op.Num = num
	}
	return op
}

func TestKindsThatAreNone(t *testing.T) {
	for _, kind := range []int{0, 9, -1, -2, 10, 100, 256 + impl.KTick, 1<<32 + impl.KLook, math.MaxInt64, math.MinInt64} {
		for _, op := range append(readyOps(), impl.Op{}, impl.Op{Name: "x"}, impl.Op{Num: 1}) {
			op.Kind = kind
			wantBehindReady(t, op, refused(impl.RMalformed))
		}
	}
}

func TestNumberOfOperations(t *testing.T) {
	if got := impl.Play(nil); len(got) != 0 {
		t.Errorf("nothing: %+v", got)
	}
	if got := impl.Play([]impl.Op{}); len(got) != 0 {
		t.Errorf("no operations: %+v", got)
	}
	ticks := slices.Repeat([]impl.Op{{Kind: impl.KTick, Num: 1}}, maxOps)
	for i, reply := range checkPlay(t, ticks) {
		if !sameReply(reply, done(int64(i)+1)) {
			t.Errorf("tick %d: %+v", i, reply)
		}
	}
	if got := impl.Play(ticks); len(got) != maxOps {
		t.Errorf("MaxOps operations have %d replies", len(got))
	}
	for _, op := range []impl.Op{{}, {Kind: impl.KTick, Num: 1}, {Kind: impl.KInstall, Text: "else deny;"}, {Kind: impl.KLook, Name: "x"}} {
		for _, n := range []int{maxOps + 1, 2 * maxOps, 100000} {
			if got := impl.Play(slices.Repeat([]impl.Op{op}, n)); len(got) != 0 {
				t.Errorf("%d operations %+v have %d replies", n, op, len(got))
			}
		}
	}
}

// Each call has an endpoint of its own.
func TestEndpointsAreNew(t *testing.T) {
	impl.Play(append(readyOps(), impl.Op{Kind: impl.KTick, Num: 5}))
	got := checkPlay(t, []impl.Op{
		{Kind: impl.KLook, Name: "x"},
		{Kind: impl.KTick},
		{Kind: impl.KToken, Name: "x", Text: askA[1:]},
		{Kind: impl.KConsent, Name: "ann", Other: "app", Text: "a"},
		{Kind: impl.KWithdraw, Name: "ann", Other: "app"},
	})
	want := []impl.Reply{refused(impl.RUnknown), done(0), refused(impl.RNoPolicy), refused(impl.RClient), refused(impl.RUnknown)}
	if !sameReplies(got, want) {
		t.Errorf("%+v, want %+v", got, want)
	}
	for i := range 3 {
		if got := checkPlay(t, readyOps()); !sameReplies(got, readyReplies()) {
			t.Errorf("time %s: %+v", strconv.Itoa(i), got)
		}
	}
}

// More tokens than MaxLive may be issued in all; every name stays taken.
func TestManyTokensInAll(t *testing.T) {
	ops := readyOps()[:3]
	want := []impl.Reply{done(0), done(2), done(2)}
	clock := int64(0)
	for len(ops) < maxOps-maxLive-3 {
		for range maxLive {
			ops = append(ops, impl.Op{Kind: impl.KToken, Name: "t" + strconv.Itoa(len(ops)), Text: askA[1:]})
			want = append(want, done(clock+tokenLife, "a"))
		}
		clock += tokenLife
		ops = append(ops, impl.Op{Kind: impl.KTick, Num: tokenLife})
		want = append(want, done(clock))
	}
	for i := 3; len(ops) < maxOps; i += 11 {
		if ops[i].Kind == impl.KToken {
			ops = append(ops, ops[i])
			want = append(want, refused(impl.RReused))
		} else {
			ops = append(ops, impl.Op{})
			want = append(want, refused(impl.RMalformed))
		}
	}
	if got := checkPlay(t, ops); !sameReplies(got, want) {
		t.Errorf("%s, want %s", brief(got), brief(want))
	}
}
