package tests

import (
	"math"
	"slices"
	"strconv"
	"strings"
	"testing"

	"loop.example/s01308/impl"
)

func TestLimitsAndNumbersOfTheEndpoint(t *testing.T) {
	got := []int{
		impl.MaxOps, impl.MaxScript, impl.MaxClients, impl.MaxConsents, impl.MaxLive, impl.TokenLife, impl.MaxTick, impl.MaxClock,
		impl.KInstall, impl.KClient, impl.KConsent, impl.KWithdraw, impl.KToken, impl.KLook, impl.KRevoke, impl.KTick,
		impl.ROK, impl.RBadPolicy, impl.RMalformed, impl.RNoPolicy, impl.RReused, impl.RFull, impl.RClient, impl.RError,
		impl.RDenied, impl.RNothing, impl.RUnknown, impl.RInactive, impl.RActive, impl.RTick, impl.RFullReg,
	}
	want := []int{maxOps, maxScript, maxClients, maxConsents, maxLive, tokenLife, maxTick, maxClock}
	for kind := 1; kind <= 8; kind++ {
		want = append(want, kind)
	}
	for code := 0; code <= 14; code++ {
		want = append(want, code)
	}
	if !slices.Equal(got, want) {
		t.Errorf("numbers %v, want %v", got, want)
	}
}

// checkPlay holds Play against the second endpoint, with policies that are only
// checked, compiled, and optimized ahead of that.
func checkPlay(t *testing.T, ops []impl.Op) []impl.Reply {
	t.Helper()
	got := impl.Play(ops)
	for why, decide := range map[string]deciding{"decided": secondDecide, "plain": runPlain, "optimized": runOptimized} {
		if want := secondPlay(ops, decide); !sameReplies(got, want) {
			t.Fatalf("Play(%+v)\n= %+v\nwant %+v (%s)", ops, got, want, why)
		}
	}
	return got
}

// wantReplies takes a script line by line, each with the line of its reply behind it
// (without the space at its end), and plays it both as operations and as a text.
func wantReplies(t *testing.T, pairs ...string) {
	t.Helper()
	var ops []impl.Op
	var text, want strings.Builder
	for i := 0; i < len(pairs); i += 2 {
		ops = append(ops, secondOp(pairs[i]))
		text.WriteString(pairs[i] + "\n")
		want.WriteString(pairs[i+1] + strings.Repeat(" ", 2-strings.Count(pairs[i+1], " ")) + "\n")
	}
	for i, reply := range checkPlay(t, ops) {
		if line := strings.Split(want.String(), "\n")[i]; secondLine(reply) != line {
			t.Errorf("operation %d, %q: %q, want %q", i, pairs[2*i], secondLine(reply), line)
		}
	}
	if got := impl.RunScript(text.String()); got != want.String() {
		t.Errorf("RunScript(%q) = %q, want %q", text.String(), got, want.String())
	}
}

// ready is a script that installs a policy, registers app with a and b, and records
// that ann agreed to both.
func ready(policy string, more ...string) []string {
	return append([]string{"policy " + policy, "0 0", "client app a,b", "0 2", "consent ann app a,b", "0 2"}, more...)
}

const (
	grantAsked = "else grant asked;"
	askA       = " client=app user=ann level=0 ask=a"
	askAB      = " client=app user=ann level=0 ask=a,b"
)

func TestIssueByHand(t *testing.T) {
	wantReplies(t, ready(grantAsked,
		"token x"+askAB, "0 1000 a,b",
		"token y"+askA, "0 1000 a",
		"tick 7", "0 7",
		"token z client=app user=ann level=0 ask=b,a,b", "0 1007 a,b",
		"look x", "12 1000 a,b",
		"look y", "12 1000 a",
		"look z", "12 1007 a,b",
		"revoke x", "0 0",
		"look x", "11 0",
		"look y", "12 1000 a",
	)...)
}

// The scopes lie in what is granted, asked, registered and agreed to; each of the
// four alone takes one away.
func TestScopesOfATokenLieInAllFour(t *testing.T) {
	all := []string{"a", "b", "c", "d", "e"}
	without := func(i int) string {
		return strings.Join(slices.Delete(slices.Clone(all), i, i+1), ",")
	}
	granting := func(list string) string { return `else grant {"` + strings.ReplaceAll(list, ",", `","`) + `"};` }
	wantReplies(t,
		"policy "+granting(without(0)), "0 0",
		"client app "+without(1), "0 4",
		"consent ann app "+without(2), "0 4",
		"token x client=app user=ann level=0 ask="+without(3), "0 1000 e",
		"look x", "12 1000 e",
	)
	for i := range 4 {
		lists := []string{"a,b", "a,b", "a,b", "a,b"}
		for _, x := range []struct{ list, reply string }{{"a", "0 1000 a"}, {"b,c", "0 1000 b"}, {"c", "9 0"}} {
			lists[i] = x.list
			size := func(list string) string { return "0 " + strconv.Itoa(len(strings.Split(list, ","))) }
			wantReplies(t,
				"policy "+granting(lists[0]), "0 0",
				"client app "+lists[1], size(lists[1]),
				"consent ann app "+lists[2], size(lists[2]),
				"token x client=app user=ann level=0 ask="+lists[3], x.reply,
			)
		}
	}
}

// What the policy is asked about is the ask, the clock, and the consent of this user
// for this client.
func TestRequestOfATokenByHand(t *testing.T) {
	wantReplies(t, ready(`when client == "web" => grant {"a"}; when user == "bob" => grant {"b"}; else deny;`,
		"client web a,b", "0 2",
		"consent ann web a,b", "0 2",
		"consent bob app a,b", "0 2",
		"token t0"+askAB, "8 0",
		"token t1 client=web user=ann level=0 ask=a,b", "0 1000 a",
		"token t2 client=app user=bob level=0 ask=a,b", "0 1000 b",
		"policy when level < 5 => deny; when 9999998 < level => grant {\"b\"}; else grant asked;", "0 0",
		"token t3 client=app user=ann level=4 ask=a,b", "8 0",
		"token t3 client=app user=ann level=5 ask=a,b", "0 1000 a,b",
		"token t4 client=app user=ann level=9999999 ask=a,b", "0 1000 b",
		"policy when now < 3 => deny; when now == 3 => grant {\"a\"}; else grant asked;", "0 0",
		"tick 2", "0 2",
		"token t5"+askAB, "8 0",
		"tick 1", "0 3",
		"token t5"+askAB, "0 1003 a",
		"tick 1", "0 4",
		"token t6"+askAB, "0 1004 a,b",
		`policy when asked == {"a"} => deny; when asked == {} => grant 1; else grant asked;`, "1 9",
		`policy when asked == {"a"} => deny; when asked == {} => grant {"a"}; else grant asked;`, "0 0",
		"token t7"+askA, "8 0",
		"token t7 client=app user=ann level=0 ask=", "9 0",
		"token t7 client=app user=ann level=0 ask=a,a", "8 0",
		"token t7 client=app user=ann level=0 ask=b", "0 1004 b",
	)...)
	wantReplies(t,
		`policy when agreed == {} => deny; when agreed == {"a"} => grant agreed; else grant asked;`, "0 0",
		"client app a,b", "0 2", "client web a,b", "0 2",
		"token x"+askAB, "8 0",
		"consent bob app b", "0 1", "consent ann web b", "0 1",
		"token x"+askAB, "8 0",
		"consent ann app a", "0 1",
		"token x"+askAB, "0 1000 a",
		"consent ann app a,b", "0 2",
		"token y"+askAB, "0 1000 a,b",
		// Agreed is the whole consent, also what the client has not registered.
		"consent ann app a,c", "0 2",
		`policy when agreed == {"a", "c"} => grant asked; else deny;`, "0 0",
		"token z"+askAB, "0 1000 a",
		"withdraw ann app", "0 0",
		"policy when agreed == {} => deny; else grant asked;", "0 0",
		"token w"+askAB, "8 0",
	)
}

func TestOutcomesOfPolicies(t *testing.T) {
	for policy, reply := range map[string]string{
		"else deny;":                                                       "8 0",
		"when true => deny; else grant asked;":                             "8 0",
		"when false => deny; else grant asked;":                            "0 1000 a,b",
		grantAsked:                                                         "0 1000 a,b",
		"else grant agreed;":                                               "0 1000 a,b",
		"else grant {};":                                                   "9 0",
		`else grant {"c"};`:                                                "9 0",
		`else grant {"b","c"};`:                                            "0 1000 b",
		`else grant asked | {"c"};`:                                        "0 1000 a,b",
		`else grant asked \ agreed;`:                                       "9 0",
		`else grant asked & {"b"};`:                                        "0 1000 b",
		"let x = 1 / 0; else grant asked;":                                 "7 2",
		"let x = 1 % level; else grant asked;":                             "7 2",
		"let x = " + overflow + "; else deny;":                             "7 1",
		"let x = -level - 1 / level; else deny;":                           "7 2",
		"let x = level / 1; else grant asked;":                             "0 1000 a,b",
		"when 1 / level == 0 => deny; else deny;":                          "7 2",
		"when level == 0 => deny; when 1 / level == 0 => deny; else deny;": "8 0",
		"when level == 0 or 1 / level == 0 => grant asked; else deny;":     "0 1000 a,b",
		"else grant " + wideUnion(maxSet+1) + ";":                          "7 3",
		"else grant " + wideUnion(maxSet) + ";":                            "9 0",
		"else grant " + wideUnion(maxSet) + " | asked;":                    "7 3",
		`else grant (asked | {"a","b"}) & agreed; # no more`:               "0 1000 a,b",
	} {
		wantReplies(t, ready(policy,
			"token x"+askAB, reply,
			"look x", map[bool]string{true: "12 1000" + strings.TrimPrefix(reply, "0 1000"), false: "10 0"}[reply[0] == '0'],
		)...)
	}
}

// Ahead of the policy stand four refusals; a token is asked for while the lines that
// are told fit, and the first of them counts.
func TestRefusalsOfATokenInTheirOrder(t *testing.T) {
	const other = " client=web user=ann level=0 ask=a"
	wantReplies(t,
		"token X"+askA, "2 0",
		"token x client=app user=ann level=0 ask=a,", "2 0",
		"token X client=app user=ann level=0 ask=a,", "2 0",
		"token x"+askA, "3 0",
		"token x"+other, "3 0",
		"policy else grant 1;", "1 9",
		"token x"+askA, "3 0",
		"policy let x = 1 / 0; else deny;", "0 0",
		"token x"+askA, "6 0",
		"client app a", "0 1",
		"token x"+askA, "7 2",
		"token x"+other, "6 0",
		"policy else deny;", "0 0",
		"token x"+askA, "8 0",
		"token x"+other, "6 0",
		"policy else grant asked;", "0 0",
		"token x"+askA, "9 0",
		"consent ann app a", "0 1",
		"token x"+askA, "0 1000 a",
		"token x"+askA, "4 0",
		"token x"+other, "4 0",
		"token X"+askA, "2 0",
		"token x client=app user=ann level=00 ask=a", "2 0",
		"policy else deny;", "0 0",
		"token x"+askA, "4 0",
		"policy let x = 1 / 0; else deny;", "0 0",
		"token x"+askA, "4 0",
	)
}

// full is a script that issues MaxLive tokens t0, t1 ..
func full(policy string, more ...string) []string {
	script := ready(policy)
	for i := range maxLive {
		script = append(script, "token t"+strconv.Itoa(i)+askA, "0 1000 a")
	}
	return append(script, more...)
}

func TestRefusalsAtAFullTable(t *testing.T) {
	wantReplies(t, full(grantAsked,
		"token more"+askA, "5 0",
		"token t0"+askA, "4 0",
		"token t39"+askA, "4 0",
		"token more client=web user=ann level=0 ask=a", "5 0",
		"token t0 client=web user=ann level=0 ask=a", "4 0",
		"token MORE"+askA, "2 0",
		"token more client=app user=ann level=0 ask=A", "2 0",
		"policy else grant", "1 4",
		"policy else deny;", "0 0",
		"token more"+askA, "5 0",
		"policy let x = 1 / 0; else deny;", "0 0",
		"token more"+askA, "5 0",
		"look more", "10 0",
		"look t0", "12 1000 a",
		"look t39", "12 1000 a",
	)...)
}

func TestRoomInAFullTable(t *testing.T) {
	// A token that is revoked makes room for one, and for no more.
	wantReplies(t, full(grantAsked,
		"token more"+askA, "5 0",
		"revoke t7", "0 0",
		"token t7"+askA, "4 0",
		"token more"+askA, "0 1000 a",
		"token again"+askA, "5 0",
		"revoke t7", "11 0",
		"token again"+askA, "5 0",
		"revoke more", "0 0",
		"token again"+askAB, "0 1000 a,b",
		"token last"+askA, "5 0",
	)...)
	// So does one that expires.
	late := full(grantAsked)
	late = append(late[:len(late)-2], "tick 1", "0 1", "token late"+askA, "0 1001 a")
	wantReplies(t, append(late,
		"token more"+askA, "5 0",
		"tick 998", "0 999",
		"token more"+askA, "5 0",
		"tick 1", "0 1000",
		"look late", "12 1001 a",
		"token more"+askA, "0 2000 a",
		"token t0"+askA, "4 0",
		"tick 1", "0 1001",
		"look late", "11 0",
		"look more", "12 2000 a",
	)...)
	// One that was revoked and then expires makes no second room.
	script := full(grantAsked, "revoke t0", "0 0", "tick 999", "0 999", "token new"+askA, "0 1999 a", "token newer"+askA, "5 0", "tick 1", "0 1000")
	for i := range maxLive - 1 {
		script = append(script, "token u"+strconv.Itoa(i)+askA, "0 2000 a")
	}
	wantReplies(t, append(script, "token more"+askA, "5 0", "look new", "12 1999 a")...)
}

// A request that is refused takes up no room and no name.
func TestRefusedRequestsIssueNothing(t *testing.T) {
	script := ready("when level < 1 => deny; when level < 2 => grant {}; when level < 3 => grant asked; let x = 1 / 0; else deny;")
	for i := range maxLive {
		name := "token t" + strconv.Itoa(i)
		for level, reply := range []string{"8 0", "9 0", "", "7 2"} {
			if reply != "" {
				script = append(script, name+" client=app user=ann level="+strconv.Itoa(level)+" ask=a", reply)
			}
		}
		script = append(script, name+" client=web user=ann level=2 ask=a", "6 0", "look t"+strconv.Itoa(i), "10 0")
		script = append(script, "revoke t"+strconv.Itoa(i), "10 0")
	}
	for i := range maxLive {
		script = append(script, "token t"+strconv.Itoa(i)+" client=app user=ann level=2 ask=a", "0 1000 a")
	}
	wantReplies(t, append(script, "token more client=app user=ann level=2 ask=a", "5 0")...)
}

func TestLifeOfAToken(t *testing.T) {
	wantReplies(t, ready(grantAsked,
		"look x", "10 0", "revoke x", "10 0",
		"tick 3", "0 3",
		"token x"+askA, "0 1003 a",
		"token y"+askA, "0 1003 a",
		"tick 0", "0 3",
		"look x", "12 1003 a",
		"tick 999", "0 1002",
		"look x", "12 1003 a",
		"revoke y", "0 0",
		"look y", "11 0", "revoke y", "11 0", "token y"+askA, "4 0",
		"tick 1", "0 1003",
		"look x", "11 0", "revoke x", "11 0", "token x"+askA, "4 0",
		"look y", "11 0", "revoke y", "11 0", "token y"+askA, "4 0",
		"tick 1", "0 1004",
		"look x", "11 0", "revoke x", "11 0", "token x"+askA, "4 0",
		"tick 1000000", "0 1001004",
		"look x", "11 0", "token x"+askA, "4 0",
		"token z"+askA, "0 1002004 a",
		"look z", "12 1002004 a",
	)...)
	// The last second of a token may be its last for any reason.
	wantReplies(t, ready(grantAsked,
		"token x"+askA, "0 1000 a", "tick 999", "0 999", "revoke x", "0 0", "look x", "11 0", "tick 1", "0 1000", "look x", "11 0",
	)...)
	wantReplies(t, ready(grantAsked, "token x"+askA, "0 1000 a", "tick 1000", "0 1000", "revoke x", "11 0")...)
	wantReplies(t, ready(grantAsked, "token x"+askA, "0 1000 a", "tick 1000000", "0 1000000", "look x", "11 0")...)
}

// A token stays as it was issued, whatever becomes of what it was issued by.
func TestTokensStayAsTheyWereIssued(t *testing.T) {
	wantReplies(t, ready(grantAsked,
		"token x"+askAB, "0 1000 a,b",
		"client app b", "0 1", "look x", "12 1000 a,b",
		"client app", "0 0", "look x", "12 1000 a,b",
		"consent ann app b", "0 1", "look x", "12 1000 a,b",
		"withdraw ann app", "0 0", "look x", "12 1000 a,b",
		"policy else deny;", "0 0", "look x", "12 1000 a,b",
		"policy let x = 1 / 0; else deny;", "0 0", "look x", "12 1000 a,b",
		"tick 999", "0 999", "look x", "12 1000 a,b",
		"token x"+askA, "4 0", "look x", "12 1000 a,b",
	)...)
}

func TestClientRegisteredAnew(t *testing.T) {
	wantReplies(t, ready(grantAsked,
		"token x"+askAB, "0 1000 a,b",
		"client app b", "0 1",
		"token y"+askAB, "0 1000 b",
		"token z"+askA, "9 0",
		"look x", "12 1000 a,b",
		// The consent is still there, with what it was given for.
		`policy when agreed == {"a", "b"} => grant asked; else deny;`, "0 0",
		"token z"+askAB, "0 1000 b",
		"client app", "0 0",
		"token w"+askAB, "9 0",
		"withdraw ann app", "0 0",
		"consent ann app a", "0 1",
		"policy "+grantAsked, "0 0",
		"client app c,a,b", "0 3",
		"token w"+askAB, "0 1000 a",
		"client app a,A", "2 0",
		"token v"+askAB, "0 1000 a",
	)...)
}

func TestConsentByHand(t *testing.T) {
	wantReplies(t,
		"consent ann app a", "6 0",
		"withdraw ann app", "10 0",
		"client app a,b", "0 2",
		"withdraw ann app", "10 0",
		"policy "+grantAsked, "0 0",
		"token x"+askAB, "9 0",
		"consent ann app a,b,c", "0 3",
		"token x"+askAB, "0 1000 a,b",
		"withdraw ann app", "0 0",
		"token y"+askAB, "9 0",
		"withdraw ann app", "10 0",
		"consent ann app b", "0 1",
		"token y"+askAB, "0 1000 b",
		"consent ann app", "0 0",
		"token z"+askAB, "9 0",
		"withdraw ann app", "0 0",
		"withdraw ann app", "10 0",
		"consent ann app a", "0 1",
		"consent ann app b", "0 1",
		"token z"+askAB, "0 1000 b",
		"withdraw ann app", "0 0",
		// A second asking does not bring back what is there no more.
		"token w"+askAB, "9 0",
		"token w"+askAB, "9 0",
		"consent ann app a,", "2 0",
		"token w"+askAB, "9 0",
		"look z", "12 1000 b",
	)
	// A consent is that of one user for one client, in this order.
	wantReplies(t,
		"policy "+grantAsked, "0 0",
		"client app a", "0 1", "client ann a", "0 1",
		"consent app ann a", "0 1",
		"token x"+askA, "9 0",
		"withdraw ann app", "10 0",
		"consent ann app a", "0 1",
		"withdraw app ann", "0 0",
		"token x"+askA, "0 1000 a",
		"token y client=ann user=app level=0 ask=a", "9 0",
		"consent an app a", "0 1",
		"withdraw ann app", "0 0",
		"token y"+askA, "9 0",
		"consent a a a", "6 0",
	)
}

// No two pairs of names are taken for one.
func TestConsentsOfNamesThatRunTogether(t *testing.T) {
	for _, sep := range []string{"", ":", ".", "-", "_", "a"} {
		left, right := "b"+sep, sep+"b"
		wantReplies(t,
			"policy "+grantAsked, "0 0",
			"client "+right+"b a", "0 1", "client b a", "0 1",
			"consent b "+right+"b a", "0 1",
			"withdraw "+left+"b b", "10 0",
			"token x client=b user="+left+"b level=0 ask=a", "9 0",
			"token x client="+right+"b user=b level=0 ask=a", "0 1000 a",
			"consent "+left+"b b a", "0 1",
			"withdraw b "+right+"b", "0 0",
			"token y client=b user="+left+"b level=0 ask=a", "0 1000 a",
			"token z client="+right+"b user=b level=0 ask=a", "9 0",
		)
	}
}

func TestRegistryOfClients(t *testing.T) {
	var script []string
	for i := range maxClients {
		script = append(script, "client c"+strconv.Itoa(i)+" a", "0 1")
	}
	wantReplies(t, append(script,
		"client more a", "14 0",
		"client more", "14 0",
		"client MORE a", "2 0",
		"client more a,", "2 0",
		"client c0 a,b", "0 2",
		"client c49", "0 0",
		"client c7 a,,b", "2 0",
		"client more a", "14 0",
		"consent ann more a", "6 0",
		"consent ann c7 a", "0 1",
		"policy "+grantAsked, "0 0",
		"token x client=more user=ann level=0 ask=a", "6 0",
		"token x client=c7 user=ann level=0 ask=a", "0 1000 a",
		"withdraw ann c7", "0 0",
		"client more a", "14 0",
	)...)
}

func TestRegistryOfConsents(t *testing.T) {
	script := []string{"client app a,b", "0 2", "client web a,b", "0 2", "policy " + grantAsked, "0 0"}
	for i := range maxConsents / 2 {
		script = append(script, "consent u"+strconv.Itoa(i)+" app a", "0 1", "consent u"+strconv.Itoa(i)+" web a", "0 1")
	}
	wantReplies(t, append(script,
		"consent more app a", "14 0",
		"consent more web", "14 0",
		"consent more none a", "6 0",
		"consent u0 none a", "6 0",
		"consent MORE app a", "2 0",
		"consent more app a,", "2 0",
		"token x client=app user=more level=0 ask=a", "9 0",
		"consent u0 app a,b", "0 2",
		"consent u49 web", "0 0",
		"consent more app a", "14 0",
		"withdraw more app", "10 0",
		"consent more app a", "14 0",
		"withdraw u7 web", "0 0",
		"consent more app a", "0 1",
		"consent u7 web a", "14 0",
		"token x client=app user=more level=0 ask=a", "0 1000 a",
		"token y client=web user=u7 level=0 ask=a", "9 0",
		"token y client=app user=u0 level=0 ask=a,b", "0 1000 a,b",
		"withdraw u7 web", "10 0",
		"withdraw more app", "0 0",
		"consent u7 web a", "0 1",
		"consent more app a", "14 0",
	)...)
}

func TestTicks(t *testing.T) {
	wantReplies(t,
		"tick 0", "0 0", "tick 1", "0 1", "tick 0", "0 1",
		"tick 1000000", "0 1000001", "tick 1000001", "13 0", "tick 999999999999", "13 0",
		"tick 999999", "0 2000000", "tick 1000000", "0 3000000", "tick 1000000", "0 4000000",
		"tick 1000001", "13 0", "tick 999999", "0 4999999", "tick 2", "13 0", "tick 1000000", "13 0",
		"tick 1", "0 5000000", "tick 1", "13 0", "tick 0", "0 5000000", "tick 1000000", "13 0", "tick -1", "13 0",
		"tick 0", "0 5000000",
		"policy when now == 5000000 => grant asked; else deny;", "0 0", "client app a", "0 1", "consent ann app a", "0 1",
		"token x"+askA, "0 5001000 a", "look x", "12 5001000 a",
	)
	for _, step := range []int64{-1, -2, -maxTick, math.MinInt64, math.MinInt64 + 1, maxTick + 1, maxClock, maxClock + 1, math.MaxInt32 + 1, math.MaxInt64 - 1, math.MaxInt64} {
		for _, clock := range []int64{0, 1, maxTick} {
			got := checkPlay(t, []impl.Op{{Kind: impl.KTick, Num: clock}, {Kind: impl.KTick, Num: step}, {Kind: impl.KTick}})
			if !sameReplies(got, []impl.Reply{done(clock), refused(impl.RTick), done(clock)}) {
				t.Errorf("a tick of %d at %d: %+v", step, clock, got)
			}
		}
	}
}

// faultyPolicies has a policy with each fault that a text can have.
func faultyPolicies() map[int][]string {
	return map[int][]string{
		impl.FSize:   {strings.Repeat(" ", maxText+1), grantAsked + strings.Repeat(" ", maxText)},
		impl.FByte:   {"else grant Asked;", "else deny; ?", "else deny; A"},
		impl.FToken:  {`else grant {"a b"};`, "when 1a == 1 => deny; else deny;", "else deny; 99999999999999999999"},
		impl.FSyntax: {"", "else deny", "else grant asked", "when true => deny;", "else deny; else deny;", "deny"},
		impl.FLimit:  {"else grant " + wideSet(numberedNames("n", maxSet+1), 1) + ";"},
		impl.FDepth:  {"when " + strings.Repeat("not ", maxDepth) + "true => deny; else deny;"},
		impl.FName:   {"else grant scopes;", "when x => deny; let x = true; else deny;"},
		impl.FAgain:  {"let now = 1; else deny;", "let x = 1; let x = 1; else deny;"},
		impl.FType:   {"else grant 1;", "when 1 => deny; else deny;", "when 1 == true => deny; else grant asked;"},
	}
}

// A policy with a fault leaves the installed one in force, or none where there is none.
func TestPoliciesWithFaults(t *testing.T) {
	faulty := faultyPolicies()
	for code := impl.FSize; code <= impl.FType; code++ {
		if len(faulty[code]) == 0 {
			t.Errorf("no policy with fault %d", code)
		}
		told := "1 " + strconv.Itoa(code)
		for _, text := range faulty[code] {
			line := "policy " + text
			wantReplies(t,
				line, told,
				"client app a,b", "0 2", "consent ann app a,b", "0 2",
				"token x"+askAB, "3 0",
				"policy else grant {\"a\"};", "0 0",
				line, told,
				"token x"+askAB, "0 1000 a",
				line, told, line, told,
				"token y"+askAB, "0 1000 a",
				"policy else grant {\"b\"};", "0 0",
				"token z"+askAB, "0 1000 b",
				line, told,
				"token w"+askAB, "0 1000 b",
				"policy else deny;", "0 0",
				line, told,
				"token v"+askAB, "8 0",
				"policy let x = 1 / 0; else deny;", "0 0",
				line, told,
				"token v"+askAB, "7 2",
				"look x", "12 1000 a", "look w", "12 1000 b",
			)
		}
	}
}

// A policy may be as long as MaxText, and have line ends that no script could hold.
func TestPoliciesOfOperations(t *testing.T) {
	most := grantAsked + strings.Repeat(" ", maxText-len(grantAsked))
	for text, code := range map[string]int{
		most: impl.FNone, most + " ": impl.FSize, most[:maxText-1] + "\n": impl.FNone,
		"# a\nelse # b\ngrant\nasked\n;\n": impl.FNone, "else grant asked; # \xff": impl.FNone, "\xff": impl.FByte,
		"else deny;\x00": impl.FByte, "else\tdeny;": impl.FNone, "else\rdeny;": impl.FByte,
	} {
		got := checkPlay(t, []impl.Op{{Kind: impl.KInstall, Text: text}})
		want := impl.Reply{Num: int64(code)}
		if code != impl.FNone {
			want.Code = impl.RBadPolicy
		}
		if !sameReplies(got, []impl.Reply{want}) {
			t.Errorf("%q: %+v, want %+v", text, got, want)
		}
	}
}
