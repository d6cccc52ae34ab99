package tests

import (
	"math/rand"
	"slices"
	"strconv"
	"strings"
	"testing"

	"loop.example/s01308/impl"
)

// checkScript holds ParseScript and RunScript against the second ones, and a
// script's lines against Play's replies.
func checkScript(t *testing.T, text string) ([]impl.Op, bool) {
	t.Helper()
	want, wantOK := secondParse(text)
	got, ok := impl.ParseScript(text)
	if ok != wantOK || !slices.Equal(got, want) {
		t.Fatalf("ParseScript(%q) = %+v, %v, want %+v, %v", brief(text), brief(got), ok, brief(want), wantOK)
	}
	lines := ""
	if ok {
		for _, reply := range impl.Play(got) {
			lines += secondLine(reply) + "\n"
		}
	}
	if told := impl.RunScript(text); told != lines {
		t.Fatalf("RunScript(%q) = %q, want %q", brief(text), brief(told), brief(lines))
	}
	return got, ok
}

func wantOps(t *testing.T, text string, want ...impl.Op) {
	t.Helper()
	if got, ok := checkScript(t, text); !ok || !slices.Equal(got, want) {
		t.Errorf("ParseScript(%q) = %+v, %v, want %+v", text, got, ok, want)
	}
}

func wantNoScript(t *testing.T, why, text string) {
	t.Helper()
	if got, ok := checkScript(t, text); ok || len(got) > 0 {
		t.Errorf("%s: %s, %v", why, brief(got), ok)
	}
	if got := impl.RunScript(text); got != "" {
		t.Errorf("%s: %q", why, brief(got))
	}
}

func TestLinesOfScriptsByHand(t *testing.T) {
	for line, want := range map[string]impl.Op{
		"policy else deny;":         {Kind: impl.KInstall, Text: "else deny;"},
		"policy":                    {Kind: impl.KInstall},
		"policy ":                   {Kind: impl.KInstall},
		"policy  else  deny; ":      {Kind: impl.KInstall, Text: " else  deny; "},
		"client app a,b":            {Kind: impl.KClient, Name: "app", Text: "a,b"},
		"client app ":               {Kind: impl.KClient, Name: "app"},
		"client app":                {Kind: impl.KClient, Name: "app"},
		"client ":                   {Kind: impl.KClient},
		"client":                    {Kind: impl.KClient},
		"client  app":               {Kind: impl.KClient, Text: "app"},
		"client  app a":             {Kind: impl.KClient, Text: "app a"},
		"client app  a":             {Kind: impl.KClient, Name: "app", Text: " a"},
		"client app a b ":           {Kind: impl.KClient, Name: "app", Text: "a b "},
		"consent ann app a,b":       {Kind: impl.KConsent, Name: "ann", Other: "app", Text: "a,b"},
		"consent ann app a b":       {Kind: impl.KConsent, Name: "ann", Other: "app", Text: "a b"},
		"consent ann app":           {Kind: impl.KConsent, Name: "ann", Other: "app"},
		"consent ann app ":          {Kind: impl.KConsent, Name: "ann", Other: "app"},
		"consent ann":               {Kind: impl.KConsent, Name: "ann"},
		"consent":                   {Kind: impl.KConsent},
		"consent  ann app":          {Kind: impl.KConsent, Other: "ann", Text: "app"},
		"consent ann  app":          {Kind: impl.KConsent, Name: "ann", Text: "app"},
		"consent   a":               {Kind: impl.KConsent, Text: "a"},
		"consent    a":              {Kind: impl.KConsent, Text: " a"},
		"withdraw ann app":          {Kind: impl.KWithdraw, Name: "ann", Other: "app"},
		"withdraw ann app ":         {Kind: impl.KWithdraw, Name: "ann", Other: "app "},
		"withdraw ann app more":     {Kind: impl.KWithdraw, Name: "ann", Other: "app more"},
		"withdraw ann":              {Kind: impl.KWithdraw, Name: "ann"},
		"withdraw":                  {Kind: impl.KWithdraw},
		"withdraw  ann":             {Kind: impl.KWithdraw, Other: "ann"},
		"token x client=a user=b":   {Kind: impl.KToken, Name: "x", Text: "client=a user=b"},
		"token x":                   {Kind: impl.KToken, Name: "x"},
		"token":                     {Kind: impl.KToken},
		"token  x client=a":         {Kind: impl.KToken, Text: "x client=a"},
		"token x  client=a":         {Kind: impl.KToken, Name: "x", Text: " client=a"},
		"look x":                    {Kind: impl.KLook, Name: "x"},
		"look x y":                  {Kind: impl.KLook, Name: "x y"},
		"look  x":                   {Kind: impl.KLook, Name: " x"},
		"look x ":                   {Kind: impl.KLook, Name: "x "},
		"look":                      {Kind: impl.KLook},
		"look ":                     {Kind: impl.KLook},
		"revoke x":                  {Kind: impl.KRevoke, Name: "x"},
		"revoke x y":                {Kind: impl.KRevoke, Name: "x y"},
		"revoke  ":                  {Kind: impl.KRevoke, Name: " "},
		"revoke":                    {Kind: impl.KRevoke},
		"tick 5":                    {Kind: impl.KTick, Num: 5},
		"":                          {},
		" ":                         {},
		"  ":                        {},
		" tick 5":                   {},
		"\ttick 5":                  {},
		"tick\t5":                   {},
		"tick5":                     {},
		"\r":                        {},
		"tick 5\r":                  {Kind: impl.KTick, Num: -1},
		"look x\r":                  {Kind: impl.KLook, Name: "x\r"},
		"look\r":                    {},
		"look \xff\x00":             {Kind: impl.KLook, Name: "\xff\x00"},
		"# look x":                  {},
		"none":                      {},
		"none of these words":       {},
		"Policy else deny;":         {},
		"POLICY else deny;":         {},
		"Client app a":              {},
		"cLient app a":              {},
		"consenT ann app a":         {},
		"Withdraw ann app":          {},
		"Token x client=a":          {},
		"LOOK x":                    {},
		"Revoke x":                  {},
		"Tick 5":                    {},
		"tic 5":                     {},
		"ticks 5":                   {},
		"polic else deny;":          {},
		"policyy else deny;":        {},
		"0 5":                       {},
		"1 else deny;":              {},
		"tick 1 2":                  {Kind: impl.KTick, Num: -1},
		"tick  1":                   {Kind: impl.KTick, Num: -1},
		"tick 1 ":                   {Kind: impl.KTick, Num: -1},
		"install else deny;":        {},
		"policy\u00a0else deny;":    {},
		"client\u00a0app a":         {},
		"client app\u00a0a":         {Kind: impl.KClient, Name: "app\u00a0a"},
		"consent ann app a,b extra": {Kind: impl.KConsent, Name: "ann", Other: "app", Text: "a,b extra"},
	} {
		wantOps(t, line+"\n", want)
		if line != "" {
			wantOps(t, line, want)
		}
		wantOps(t, line+"\n"+line+"\n\n", want, want, impl.Op{})
	}
}

func TestTicksOfScripts(t *testing.T) {
	for digits, want := range map[string]int64{
		"0": 0, "1": 1, "9": 9, "10": 10, "00": 0, "007": 7, "000000000000": 0, "000000000001": 1, "0000000000001": -1,
		"999999999999": 999999999999, "123456789012": 123456789012, "1000000000000": -1, "1234567890123": -1,
		"1000000": 1000000, "1000001": 1000001, "9223372036854775807": -1, "18446744073709551617": -1,
		"": -1, "-1": -1, "+1": -1, "-0": -1, "-": -1, "+": -1, "1a": -1, "a1": -1, "a": -1, "1.0": -1, "1e3": -1, "0x1": -1,
		"1_0": -1, "1,0": -1, " 1": -1, "1 ": -1, "1 1": -1, " ": -1, "٣": -1, "\xb2": -1, "1\x00": -1, "/": -1, ":": -1, "1:": -1, "/1": -1,
	} {
		wantOps(t, "tick "+digits, impl.Op{Kind: impl.KTick, Num: want})
		told := "13 0 \n"
		if want >= 0 && want <= maxTick {
			told = "0 " + strconv.FormatInt(want, 10) + " \n"
		}
		if got := impl.RunScript("tick " + digits + "\n"); got != told {
			t.Errorf("tick %q: %q, want %q", digits, got, told)
		}
	}
	wantOps(t, "tick", impl.Op{Kind: impl.KTick, Num: -1})
}

func TestLineEndsOfScripts(t *testing.T) {
	look, none := impl.Op{Kind: impl.KLook, Name: "x"}, impl.Op{}
	for text, want := range map[string][]impl.Op{
		"": nil, "\n": {none}, "\n\n": {none, none}, "look x": {look}, "look x\n": {look}, "look x\n\n": {look, none},
		"\nlook x": {none, look}, "\n\nlook x\n": {none, none, look}, "look x\nlook x": {look, look},
		"look x\n\nlook x\n": {look, none, look}, "look x\n ": {look, none}, "look x\n \n": {look, none},
		"\r\n": {none}, "look x\n\r": {look, none},
	} {
		wantOps(t, text, want...)
	}
	for text, want := range map[string]string{
		"": "", "\n": "2 0 \n", "\n\n": "2 0 \n2 0 \n", "look x": "10 0 \n", "look x\n": "10 0 \n", "look x\n\n": "10 0 \n2 0 \n",
		"\nlook x": "2 0 \n10 0 \n", "look x \n": "2 0 \n",
	} {
		if got := impl.RunScript(text); got != want {
			t.Errorf("RunScript(%q) = %q, want %q", text, got, want)
		}
	}
}

func TestLinesOfRepliesByHand(t *testing.T) {
	for text, want := range map[string]string{
		"client app c,b,a,b": "0 3 \n",
		"client app":         "0 0 \n",
		"policy deny":        "1 4 \n",
		"policy else deny;\npolicy else grant asked;\nclient app a,b\nconsent ann app b,a\ntoken x client=app user=ann level=0 ask=b,a\nlook x\nrevoke x\nlook x\ntick 12\n": "0 0 \n0 0 \n0 2 \n0 2 \n0 1000 a,b\n12 1000 a,b\n0 0 \n11 0 \n0 12 \n",
		"policy let x = 9223372036854775807 + 1; else deny;\nclient app a\ntoken x client=app user=ann level=0 ask=a":                                                        "0 0 \n0 1 \n7 1 \n",
	} {
		checkScript(t, text)
		if got := impl.RunScript(text); got != want {
			t.Errorf("RunScript(%q) = %q, want %q", text, got, want)
		}
	}
}

// padded is the text with bytes behind it, up to a length.
func padded(text string, length int) string { return text + strings.Repeat("x", length-len(text)) }

func TestLengthOfScripts(t *testing.T) {
	for _, start := range []string{"", "look ", "tick 5\n", "\n", "policy else deny;\nlook "} {
		if _, ok := checkScript(t, padded(start, maxScript)); !ok {
			t.Errorf("a script of MaxScript bytes that begins with %q is refused", start)
		}
		if _, ok := checkScript(t, padded(start, maxScript-1)+"\n"); !ok {
			t.Errorf("a script of MaxScript bytes with a line end that begins with %q is refused", start)
		}
		wantNoScript(t, "one byte more", padded(start, maxScript+1))
		wantNoScript(t, "one line end more", padded(start, maxScript)+"\n")
		wantNoScript(t, "many bytes more", padded(start, 10*maxScript))
	}
	line := "tick 5\n"
	wantNoScript(t, "lines of more than MaxScript bytes", strings.Repeat(line, maxScript/len(line)+1))
}

func TestNumberOfLines(t *testing.T) {
	for _, line := range []string{"tick 1", "", "look x", "none", " ", "policy else deny;"} {
		most := strings.Repeat(line+"\n", maxOps)
		if ops, ok := checkScript(t, most); !ok || len(ops) != maxOps {
			t.Errorf("%d lines %q: %d, %v", maxOps, line, len(ops), ok)
		}
		if got := strings.Count(impl.RunScript(most), "\n"); got != maxOps {
			t.Errorf("%d lines %q have %d replies", maxOps, line, got)
		}
		if ops, ok := checkScript(t, strings.TrimSuffix(most, "\n")); line != "" && (!ok || len(ops) != maxOps) {
			t.Errorf("%d lines %q without the last line end: %d, %v", maxOps, line, len(ops), ok)
		}
		wantNoScript(t, "an empty line more", most+"\n")
		wantNoScript(t, "a line more", most+"look x")
		wantNoScript(t, "a line and its end more", most+line+"\n")
		wantNoScript(t, "a space more", most+" ")
		wantNoScript(t, "many lines more", strings.Repeat(line+"\n", 3000))
	}
	// Both bounds at once, and one of them alone.
	wide := "look " + strings.Repeat("x", maxScript/maxOps-6)
	if _, ok := checkScript(t, strings.Repeat(wide+"\n", maxOps)); !ok {
		t.Error("MaxOps lines of MaxScript bytes are refused")
	}
	wantNoScript(t, "a byte more", strings.Repeat(wide+"\n", maxOps)+"x")
	wantNoScript(t, "line ends alone", strings.Repeat("\n", maxScript))
	wantNoScript(t, "one line end more than MaxOps", strings.Repeat("\n", maxOps+1))
}

// A policy in a script ends with its line, and a comment with it.
func TestPoliciesOfScripts(t *testing.T) {
	got := impl.RunScript("policy else grant asked; # asked \xff\npolicy else\ngrant asked;\npolicy " + strings.Repeat(" ", maxText-10) + "else deny;\npolicy " + strings.Repeat(" ", maxText-9) + "else deny;\n")
	if want := "0 0 \n1 4 \n2 0 \n0 0 \n1 1 \n"; got != want {
		t.Errorf("%q, want %q", got, want)
	}
}

func TestAnyText(t *testing.T) {
	random := rand.New(rand.NewSource(120))
	pieces := []string{
		"policy", "client", "consent", "withdraw", "token", "look", "revoke", "tick", " ", " ", " ", " ", "\n", "\n", "\n", "a", "b", "a,b", ",",
		"app", "ann", "0", "7", "1000000", "999999999999", "-", "else deny;", grantAsked, "client=app user=ann level=0 ask=a", "A", "\t", "\r", "#", "\xff", "\x00",
	}
	refusals := 0
	for range 20000 {
		var text strings.Builder
		for range random.Intn(60) {
			text.WriteString(pieces[random.Intn(len(pieces))])
		}
		if random.Intn(200) == 0 {
			text.WriteString(strings.Repeat(text.String(), 1+random.Intn(200)))
		}
		if _, ok := checkScript(t, text.String()); !ok {
			refusals++
		}
	}
	if refusals < 10 {
		t.Errorf("only %d texts were refused", refusals)
	}
}
