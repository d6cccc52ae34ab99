package tests

import (
	"math/big"
	"math/rand"
	"regexp"
	"slices"
	"strings"
	"testing"

	"loop.example/s01308/impl"
)

var words = []string{
	"let", "when", "else", "deny", "grant", "if", "then", "not", "and", "or", "in", "within", "size", "true", "false",
}

var signs = []string{
	"=>", "==", "!=", "<=", "<", "+", "-", "*", "/", "%", "|", "&", `\`, "(", ")", "{", "}", ",", ";", "=",
}

// The rules of 3.1 once more, as patterns; each is tried where a text goes on.
var (
	gapRule    = regexp.MustCompile(`^(?:[ \n\t]+|#[^\n]*)`)
	numberRule = regexp.MustCompile(`^[0-9]+`)
	quotedRule = regexp.MustCompile(`^"[a-z0-9._:-]{0,32}"`)
	wordRule   = regexp.MustCompile(`^[a-z][a-z0-9_]*`)
	spoiltRule = regexp.MustCompile(`^[0-9]+[a-z_]`)
	gapsRule   = regexp.MustCompile(`^(?:[ \n\t]|#[^\n]*\n)*(?:#[^\n]*)?$`)
	signRule   = regexp.MustCompile(`^(?:=>|==|!=|<=|[<+*/%|&\\(){},;=-])`)
)

var greatest = big.NewInt(1<<63 - 1)

// scanned says once more what Scan answers.
func scanned(text string) ([]impl.Token, impl.Fault) {
	if len(text) > maxText {
		return nil, impl.Fault{Code: impl.FSize}
	}
	var tokens []impl.Token
	for at := 0; at < len(text); {
		rest := text[at:]
		token := impl.Token{At: at}
		wrong := false
		var run string
		if run = gapRule.FindString(rest); run != "" {
			at += len(run)
			continue
		}
		if run = numberRule.FindString(rest); run != "" {
			value, _ := new(big.Int).SetString(run, 10)
			wrong = len(run) > 19 || value.Cmp(greatest) > 0 || spoiltRule.MatchString(rest)
			token.Kind, token.Num = impl.TNum, value.Int64()
		} else if run = wordRule.FindString(rest); run != "" {
			wrong = len(run) > maxName
			token.Kind, token.Text = impl.TName, run
			if slices.Contains(words, run) {
				token.Kind = impl.TWord
			}
		} else if rest[0] == '"' {
			run = quotedRule.FindString(rest)
			wrong = run == ""
			token.Kind, token.Text = impl.TText, strings.Trim(run, `"`)
		} else if run = signRule.FindString(rest); run != "" {
			token.Kind, token.Text = impl.TSign, run
		} else {
			return nil, impl.Fault{Code: impl.FByte, At: at}
		}
		if wrong {
			return nil, impl.Fault{Code: impl.FToken, At: at}
		}
		tokens = append(tokens, token)
		at += len(run)
	}
	return tokens, impl.Fault{}
}

func checkScan(t *testing.T, text string) {
	t.Helper()
	tokens, fault := impl.Scan(text)
	wantTokens, wantFault := scanned(text)
	if fault != wantFault || !slices.Equal(tokens, wantTokens) {
		t.Fatalf("Scan(%q) = %+v, %+v, want %+v, %+v", text, tokens, fault, wantTokens, wantFault)
	}
	if fault == (impl.Fault{}) {
		checkGaps(t, text, tokens)
	}
}

// checkGaps holds P4 against the tokens alone: each stands in the text where it
// says, behind the one ahead of it, with blanks and comments between.
func checkGaps(t *testing.T, text string, tokens []impl.Token) {
	t.Helper()
	end := 0
	for _, token := range append(slices.Clone(tokens), impl.Token{At: len(text)}) {
		if token.At < end || token.At > len(text) {
			t.Fatalf("%q: the token %+v overlaps the one ahead of it, which ends at %d", text, token, end)
		}
		if gap := text[end:token.At]; !gapsRule.MatchString(gap) {
			t.Fatalf("%q: %q stands between tokens", text, gap)
		}
		end = token.At + widthAt(text, token)
	}
}

func widthAt(text string, token impl.Token) int {
	switch token.Kind {
	case impl.TNum:
		return len(numberRule.FindString(text[token.At:]))
	case impl.TText:
		return len(token.Text) + 2
	}
	return len(token.Text)
}

func TestNumbersOfSyntax(t *testing.T) {
	got := []int{
		impl.MaxDepth, impl.MaxNodes, impl.MaxStmts,
		impl.TNum, impl.TText, impl.TName, impl.TWord, impl.TSign,
		impl.FNone, impl.FSize, impl.FByte, impl.FToken, impl.FSyntax, impl.FLimit, impl.FDepth,
		impl.FName, impl.FAgain, impl.FType, impl.FShape,
		impl.SLet, impl.SWhen, impl.SElse, impl.OpInt, impl.OpIf,
	}
	want := []int{maxDepth, maxNodes, maxStmts, 1, 2, 3, 4, 5, 0, 1, 2, 3, 4, 5, 6, 7, 8, 9, 10, 1, 2, 3, 1, 27}
	if !slices.Equal(got, want) {
		t.Errorf("constants %v, want %v", got, want)
	}
}

func TestScanKinds(t *testing.T) {
	for _, word := range words {
		wantToken(t, word, impl.Token{Kind: impl.TWord, Text: word})
		for _, name := range []string{word + "s", word + "_", word + "1", "a" + word} {
			wantToken(t, name, impl.Token{Kind: impl.TName, Text: name})
		}
		wantToken(t, `"`+word+`"`, impl.Token{Kind: impl.TText, Text: word})
	}
	for _, sign := range signs {
		wantToken(t, sign, impl.Token{Kind: impl.TSign, Text: sign})
	}
	for _, name := range []string{"a", "z", "a0", "a_", "a__9", "wit", "withi", "tru"} {
		wantToken(t, name, impl.Token{Kind: impl.TName, Text: name})
	}
}

func wantToken(t *testing.T, text string, want impl.Token) {
	t.Helper()
	tokens, fault := impl.Scan(text)
	if fault != (impl.Fault{}) || !slices.Equal(tokens, []impl.Token{want}) {
		t.Errorf("Scan(%q) = %+v, %+v, want %+v alone", text, tokens, fault, want)
	}
}

func wantScanFault(t *testing.T, text string, code, at int) {
	t.Helper()
	tokens, fault := impl.Scan(text)
	if len(tokens) != 0 || fault != (impl.Fault{Code: code, At: at}) {
		t.Errorf("Scan(%.60q) = %+v, %+v, want code %d at %d", text, tokens, fault, code, at)
	}
}

func TestScanNumbers(t *testing.T) {
	for text, want := range map[string]int64{
		"0": 0, "7": 7, "007": 7, "00": 0, "10": 10,
		"9223372036854775807": 1<<63 - 1,
		"0000000000000000000": 0,
		"0000000000000000001": 1,
		"1000000000000000000": 1000000000000000000,
	} {
		wantToken(t, text, impl.Token{Kind: impl.TNum, Num: want})
	}
	for _, text := range []string{
		"9223372036854775808", "9999999999999999999", "18446744073709551615", "18446744073709551617",
		"00000000000000000000", "00000000000000000001", "10000000000000000000", strings.Repeat("0", 400),
		"1a", "1z", "0_", "12when", "9223372036854775807a", "9223372036854775807_", "007x", "1_000",
	} {
		wantScanFault(t, text, impl.FToken, 0)
		wantScanFault(t, "a + "+text+" ! B", impl.FToken, 4)
	}
	wantScanFault(t, "12A", impl.FByte, 2)
	wantScanFault(t, "12.5", impl.FByte, 2)
	tokens, fault := impl.Scan(`1"a"2-3`)
	want := []impl.Token{
		{Kind: impl.TNum, Num: 1, At: 0}, {Kind: impl.TText, Text: "a", At: 1}, {Kind: impl.TNum, Num: 2, At: 4},
		{Kind: impl.TSign, Text: "-", At: 5}, {Kind: impl.TNum, Num: 3, At: 6},
	}
	if fault != (impl.Fault{}) || !slices.Equal(tokens, want) {
		t.Errorf("%+v, %+v, want %+v", tokens, fault, want)
	}
}

func TestScanLengths(t *testing.T) {
	for _, n := range []int{1, 2, maxName - 1, maxName} {
		name := strings.Repeat("q", n)
		wantToken(t, name, impl.Token{Kind: impl.TName, Text: name})
	}
	for _, n := range []int{0, 1, 2, maxName - 1, maxName} {
		inside := strings.Repeat(":", n)
		wantToken(t, `"`+inside+`"`, impl.Token{Kind: impl.TText, Text: inside})
	}
	for _, n := range []int{maxName + 1, maxName + 2, 2 * maxName, 1000} {
		wantScanFault(t, "; "+strings.Repeat("q", n), impl.FToken, 2)
		wantScanFault(t, `; "`+strings.Repeat(":", n)+`"`, impl.FToken, 2)
	}
	// A long run of name bytes is no word, whatever it begins with.
	wantScanFault(t, "when"+strings.Repeat("_", maxName-3), impl.FToken, 0)
}

func TestScanQuotes(t *testing.T) {
	for b := range 256 {
		text := `"a` + string([]byte{byte(b)}) + `c"`
		tokens, fault := impl.Scan(text)
		switch {
		case strings.IndexByte(nameAlphabet, byte(b)) >= 0:
			wantToken(t, text, impl.Token{Kind: impl.TText, Text: "a" + string([]byte{byte(b)}) + "c"})
		case b == '"':
			// The quote ends the text, the last one begins another.
			wantScanFault(t, text, impl.FToken, 4)
		case fault != impl.Fault{Code: impl.FToken} || len(tokens) != 0:
			t.Errorf("%q: %+v, %+v", text, tokens, fault)
		}
	}
	for text, at := range map[string]int{
		`"`: 0, `"a`: 0, `"a b"`: 0, "\"a\n\"": 0, `"A"`: 0, `"#"`: 0, `"""`: 2, `"a""b`: 3,
	} {
		wantScanFault(t, text, impl.FToken, at)
	}
}

func TestScanBadBytes(t *testing.T) {
	const begins = "0123456789abcdefghijklmnopqrstuvwxyz\"<+-*/%|&\\(){},;=# \n\t"
	for b := range 256 {
		c := string([]byte{byte(b)})
		if strings.Contains(begins, c) {
			continue
		}
		wantScanFault(t, c, impl.FByte, 0)
		wantScanFault(t, "a = "+c+" 1x", impl.FByte, 4)
		wantScanFault(t, "# note\n;"+c, impl.FByte, 8)
	}
	for text, at := range map[string]int{
		"!": 0, "a!": 1, "! =": 0, "a>b": 1, "= >": 2, "==>": 2, "<=>": 2, "!=>": 2, "=>>": 2, "=!": 1, "_a": 0, ".a": 0,
		"\r\n": 0, "a\x00": 1, "\xff": 0, "é": 0, "aB": 1, "'a'": 0,
	} {
		wantScanFault(t, text, impl.FByte, at)
	}
}

func TestScanSignsThatTouch(t *testing.T) {
	for text, want := range map[string][]string{
		"===":  {"==", "="},
		"====": {"==", "=="},
		"<==":  {"<=", "="},
		"<<=":  {"<", "<="},
		"=>=":  {"=>", "="},
		"!==":  {"!=", "="},
		"= =":  {"=", "="},
		"=":    {"="},
		"<":    {"<"},
		"=<=":  {"=", "<="},
		"--":   {"-", "-"},
		"{}":   {"{", "}"},
		"=#\n": {"="},
	} {
		tokens, fault := impl.Scan(text)
		var got []string
		for _, token := range tokens {
			got = append(got, token.Text)
		}
		if fault != (impl.Fault{}) || !slices.Equal(got, want) {
			t.Errorf("Scan(%q): %q, %+v, want %q", text, got, fault, want)
		}
	}
}

func TestScanBlanksAndComments(t *testing.T) {
	for _, text := range []string{"", " ", "\n\t \n", "#", "#\n", "##\n#", "# \"A!>\xff", "# a\n# b", "\t# a\n\n"} {
		if tokens, fault := impl.Scan(text); len(tokens) != 0 || fault != (impl.Fault{}) {
			t.Errorf("Scan(%q) = %+v, %+v, want nothing", text, tokens, fault)
		}
		tokens, fault := impl.Scan(text + "\nx#")
		want := []impl.Token{{Kind: impl.TName, Text: "x", At: len(text) + 1}}
		if fault != (impl.Fault{}) || !slices.Equal(tokens, want) {
			t.Errorf("Scan(%q) = %+v, %+v, want %+v", text+"\nx#", tokens, fault, want)
		}
	}
	// A comment ends with a line end only, and it cuts a token in two.
	checkScan(t, "a#b\tc\rd\ne")
	checkScan(t, "=#\n>")
	checkScan(t, "12#\n34")
	checkScan(t, "\"a#\n\"")
}

func TestScanTextLengths(t *testing.T) {
	for _, fill := range []string{" ", "#", "a ", "1 ", ";", `"" `, "B"} {
		for n := maxText - 2; n <= maxText+2; n++ {
			text := strings.Repeat(fill, n)[:n]
			if strings.Count(text, `"`)%2 == 1 {
				text = strings.Repeat(" ", n)
			}
			checkScan(t, text)
		}
	}
	wantScanFault(t, strings.Repeat("B", maxText+1), impl.FSize, 0)
	wantScanFault(t, strings.Repeat(" ", 100*maxText), impl.FSize, 0)
	wantScanFault(t, strings.Repeat(" ", maxText-1)+"B", impl.FByte, maxText-1)
	wantScanFault(t, strings.Repeat(" ", maxText-1)+`"`, impl.FToken, maxText-1)
	wantScanFault(t, strings.Repeat("a", maxText), impl.FToken, 0)
}

// The first thing that is wrong decides, also if it is a token that ends behind
// a bad byte.
func TestScanFirstFault(t *testing.T) {
	wantScanFault(t, "A 1a", impl.FByte, 0)
	wantScanFault(t, "1a A", impl.FToken, 0)
	wantScanFault(t, `x "aA"`, impl.FToken, 2)
	wantScanFault(t, `x "a" ! "A"`, impl.FByte, 6)
	wantScanFault(t, "let let let !", impl.FByte, 12)
}

func TestScanOfManyTexts(t *testing.T) {
	random := rand.New(rand.NewSource(51))
	pieces := slices.Concat(words, signs, identifiers, []string{
		" ", "\n", "\t", "#", "# note\n", `"`, `""`, `"a.b"`, `"read:all"`, "0", "1", "42", "007", "_", "!", ">", "A", "\x80",
		"9223372036854775807", "9223372036854775808", "0000000000000000000", strings.Repeat("9", 10), strings.Repeat("b", 16),
		`"` + strings.Repeat("-", maxName), ".",
	})
	for range 60000 {
		var text strings.Builder
		for range random.Intn(12) {
			text.WriteString(pieces[random.Intn(len(pieces))])
			if random.Intn(2) == 0 {
				text.WriteByte(' ')
			}
		}
		checkScan(t, text.String())
	}
}

func TestScanOfManyBytes(t *testing.T) {
	random := rand.New(rand.NewSource(52))
	const common = "ab_19\"=!<>#\n -;.A"
	for range 60000 {
		b := make([]byte, random.Intn(14))
		for i := range b {
			b[i] = common[random.Intn(len(common))]
			if random.Intn(40) == 0 {
				b[i] = byte(random.Intn(256))
			}
		}
		checkScan(t, string(b))
	}
}

// Every text that is cut off somewhere ends within a token, between tokens, or
// within a comment.
func TestScanOfCutTexts(t *testing.T) {
	const text = "let a_1 = 007 <= 12;# é\nwhen not \"x.y\" in {\"a\",\"b\"} \\ c => grant a != b;\n\telse deny; # end"
	for i := range len(text) + 1 {
		checkScan(t, text[:i])
		checkScan(t, text[i:])
	}
}
