package tests

import (
	"math"
	"math/rand"
	"regexp"
	"slices"
	"strconv"
	"strings"
	"testing"

	"loop.example/s01308/impl"
)

func sameAsk(a, b impl.Ask) bool {
	return a.Client == b.Client && a.User == b.User && a.Level == b.Level && slices.Equal(a.Asked, b.Asked)
}

func isAsk(a impl.Ask) bool {
	return isName(a.Client) && isName(a.User) && a.Level >= 0 && a.Level <= maxLevel && isScopeSet(a.Asked)
}

// askForm is the form of an ask's text; what it does not say is counted in modelAsk.
var askForm = regexp.MustCompile(`\Aclient=([a-z0-9._:-]{1,32}) user=([a-z0-9._:-]{1,32}) level=(0|[1-9][0-9]{0,6}) ask=((?:[a-z0-9._:-]{1,32}(?:,[a-z0-9._:-]{1,32})*)?)\z`)

func modelAsk(text string) (impl.Ask, bool) {
	parts := askForm.FindStringSubmatch(text)
	if len(text) > maxText || parts == nil {
		return impl.Ask{}, false
	}
	var list []string
	if parts[4] != "" {
		list = strings.Split(parts[4], ",")
	}
	set := distinct(list)
	if len(list) > maxList || len(set) > maxSet {
		return impl.Ask{}, false
	}
	level, _ := strconv.ParseInt(parts[3], 10, 64)
	return impl.Ask{Client: parts[1], User: parts[2], Level: level, Asked: set}, true
}

func checkParse(t *testing.T, text string) bool {
	t.Helper()
	want, wantOK := modelAsk(text)
	got, ok := impl.ParseAsk(text)
	if ok != wantOK || !sameAsk(got, want) {
		t.Errorf("ParseAsk(%q) = %+v, %v, want %+v, %v", text, got, ok, want, wantOK)
	}
	if ok && !isAsk(got) {
		t.Errorf("ParseAsk(%q) read no valid ask: %+v", text, got)
	}
	return ok
}

func TestParseAskTakes(t *testing.T) {
	names := numberedNames("n", maxSet)
	longest := strings.Repeat("x", maxName)
	for _, text := range []string{
		"client=a user=b level=0 ask=",
		"client=a user=b level=0 ask=c",
		"client=a user=b level=9999999 ask=c,d",
		"client=a user=b level=1000000 ask=d,c,d,c",
		"client=user user=level level=7 ask=ask",
		"client=" + longest + " user=" + longest + " level=1 ask=" + longest,
		"client=. user=: level=10 ask=-,_",
		"client=a user=b level=1 ask=" + strings.Join(names, ","),
		"client=a user=b level=1 ask=" + strings.Join(slices.Repeat([]string{"s"}, maxList), ","),
	} {
		if !checkParse(t, text) {
			t.Errorf("%q is an ask", text)
		}
	}
}

func TestParseAskRefuses(t *testing.T) {
	long := strings.Repeat("x", maxName+1)
	for _, text := range []string{
		"", "client=", "client=a", "client=a ", "client=a user=", "client=a user=b", "client=a user=b ",
		"client=a user=b level=1", "client=a user=b level=1 ", "client=a user=b level=1 ask",
		" client=a user=b level=1 ask=c", "Client=a user=b level=1 ask=c", "lient=a user=b level=1 ask=c",
		"client=a user=b level=1 ask=c ", "client=a user=b level=1 ask=c\n", "client=a user=b level=1 ask= c",
		"client=a user=b level=1 ask= ", "client=a  user=b level=1 ask=c", "client=a user=b  level=1 ask=c",
		"client=a user=b level=1  ask=c", "client=a\tuser=b level=1 ask=c", "client= user=b level=1 ask=c",
		"client=a user= level=1 ask=c", "client=a user=b level= ask=c", "client=A user=b level=1 ask=c",
		"client=a user=B level=1 ask=c", "client=a=b user=b level=1 ask=c",
		"user=b client=a level=1 ask=c", "client=a level=1 user=b ask=c", "client=a user=b ask=c level=1",
		"client=" + long + " user=b level=1 ask=c", "client=a user=" + long + " level=1 ask=c",
		"client=a user=b level=1 ask=" + long,
		"client=a user=b level=1 ask=c,d more=e", "client=a user=b level=1 ask=c;d", "client=a user=b level=1 ask=C",
	} {
		if checkParse(t, text) {
			t.Errorf("%q is no ask", text)
		}
	}
}

func TestParseAskLevels(t *testing.T) {
	for digits, want := range map[string]bool{
		"0": true, "1": true, "9": true, "10": true, "999999": true, "1000000": true, "9999999": true,
		"": false, "00": false, "01": false, "0000000": false, "0000001": false, "00000000": false,
		"10000000": false, "99999999": false, "12345678901234567890": false,
		"-1": false, "+1": false, "-0": false, "1.0": false, "1e3": false, "0x1": false, "1_0": false,
		"a": false, "1a": false, "a1": false, "٣": false,
	} {
		text := "client=a user=b level=" + digits + " ask=c"
		if got := checkParse(t, text); got != want {
			t.Errorf("level %q: %v", digits, got)
		}
	}
}

func TestParseAskLists(t *testing.T) {
	wide := numberedNames("n", maxSet+1)
	for list, want := range map[string]bool{
		"": true, "a": true, "a,b": true, "b,a": true, "a,a": true, "b,a,b,a": true,
		",": false, ",a": false, "a,": false, "a,,b": false, "a,b,": false, ",,": false, "a, b": false, "a ,b": false,
		strings.Join(wide[:maxSet], ","):                           true,
		strings.Join(wide, ","):                                    false,
		strings.Join(slices.Repeat([]string{"a"}, maxList), ","):   true,
		strings.Join(slices.Repeat([]string{"a"}, maxList+1), ","): false,
		strings.Repeat(",", maxList):                               false,
	} {
		text := "client=a user=b level=1 ask=" + list
		if got := checkParse(t, text); got != want {
			t.Errorf("list %q: %v", list, got)
		}
	}
}

// askOfLength writes an ask of exactly that many bytes, whose list repeats names.
func askOfLength(n int) string {
	text := "client=a user=b level=1 ask=" + strings.Repeat("c", maxName)
	for n-len(text) > maxName+1 {
		text += "," + strings.Repeat("c", maxName-1)
	}
	return text + "," + strings.Repeat("d", n-len(text)-1)
}

func TestParseAskLength(t *testing.T) {
	for n, want := range map[int]bool{maxText - 1: true, maxText: true, maxText + 1: false, maxText + 100: false, 10 * maxText: false} {
		text := askOfLength(n)
		if len(text) != n {
			t.Fatalf("text of %d bytes, want %d", len(text), n)
		}
		if got := checkParse(t, text); got != want {
			t.Errorf("text of %d bytes: %v", n, got)
		}
	}
}

func TestFormatAskText(t *testing.T) {
	longest := strings.Repeat("x", maxName)
	for _, c := range []struct {
		ask  impl.Ask
		text string
	}{
		{impl.Ask{Client: "a", User: "b"}, "client=a user=b level=0 ask="},
		{impl.Ask{Client: "a", User: "b", Asked: []string{}}, "client=a user=b level=0 ask="},
		{impl.Ask{Client: "a", User: "b", Level: maxLevel, Asked: []string{"c"}}, "client=a user=b level=9999999 ask=c"},
		{impl.Ask{Client: "app.1", User: "u:2", Level: 10, Asked: []string{"c", "c-d", "d_"}}, "client=app.1 user=u:2 level=10 ask=c,c-d,d_"},
		{impl.Ask{Client: longest, User: longest, Level: 1, Asked: []string{longest}}, "client=" + longest + " user=" + longest + " level=1 ask=" + longest},
	} {
		if text := impl.FormatAsk(c.ask); text != c.text {
			t.Errorf("FormatAsk(%+v) = %q, want %q", c.ask, text, c.text)
		}
	}
}

func TestFormatAskOfNoAsk(t *testing.T) {
	good := impl.Ask{Client: "a", User: "b", Level: 1, Asked: []string{"c"}}
	wrongNames := []string{"", "A", "a b", "a=b", strings.Repeat("a", maxName+1)}
	var wrong []impl.Ask
	for _, name := range wrongNames {
		client, user := good, good
		client.Client, user.User = name, name
		wrong = append(wrong, client, user)
	}
	for _, level := range []int64{-1, maxLevel + 1, math.MinInt64, math.MaxInt64} {
		ask := good
		ask.Level = level
		wrong = append(wrong, ask)
	}
	for _, names := range wrongSets() {
		ask := good
		ask.Asked = names
		wrong = append(wrong, ask)
	}
	for _, ask := range append(wrong, impl.Ask{}) {
		if text := impl.FormatAsk(ask); text != "" {
			t.Errorf("FormatAsk(%+v) = %q", ask, text)
		}
	}
}

func randomAsk(random *rand.Rand) impl.Ask {
	level := int64(0)
	for range random.Intn(8) {
		level = level*10 + int64(random.Intn(10))
	}
	return impl.Ask{
		Client: randomName(random, maxName),
		User:   randomName(random, maxName),
		Level:  level,
		Asked:  randomSet(random, maxSet, maxName),
	}
}

func TestAskIsReadBack(t *testing.T) {
	random := rand.New(rand.NewSource(4))
	asks := []impl.Ask{
		{Client: "a", User: "b"},
		{Client: "a", User: "b", Level: maxLevel, Asked: numberedNames(strings.Repeat("n", maxName-4), maxSet)},
	}
	for range 3000 {
		asks = append(asks, randomAsk(random))
	}
	for _, ask := range asks {
		text := impl.FormatAsk(ask)
		if want := plainText(ask); text != want {
			t.Fatalf("FormatAsk(%+v) = %q, want %q", ask, text, want)
		}
		if len(text) > maxText {
			continue
		}
		if got, ok := impl.ParseAsk(text); !ok || !sameAsk(got, ask) {
			t.Fatalf("%q is read back as %+v, %v", text, got, ok)
		}
	}
}

func plainText(a impl.Ask) string {
	text := "client=" + a.Client + " user=" + a.User + " level=" + strconv.Itoa(int(a.Level)) + " ask="
	for i, name := range a.Asked {
		if i > 0 {
			text += ","
		}
		text += name
	}
	return text
}

// Texts that are an ask but for a few bytes are where a reader is easily too lax.
func TestParseAskOfSpoiltTexts(t *testing.T) {
	random := rand.New(rand.NewSource(5))
	const bytesToPut = " ,,=  a0A\n\x00\xff-"
	taken, refused := 0, 0
	for range 30000 {
		ask := randomAsk(random)
		ask.Asked = ask.Asked[:min(len(ask.Asked), 3)]
		text := []byte(plainText(ask))
		for range random.Intn(3) {
			at := random.Intn(len(text))
			put := bytesToPut[random.Intn(len(bytesToPut))]
			switch random.Intn(3) {
			case 0:
				text[at] = put
			case 1:
				text = slices.Insert(text, at, put)
			default:
				text = slices.Delete(text, at, at+1)
			}
		}
		if checkParse(t, string(text)) {
			taken++
		} else {
			refused++
		}
	}
	if taken == 0 || refused == 0 {
		t.Errorf("%d texts taken, %d refused: the test looks at too little", taken, refused)
	}
}

func TestValidRequestEdges(t *testing.T) {
	good := impl.Request{Client: "a", User: "b", Level: 1, Now: 2, Asked: []string{"c"}, Agreed: []string{"d", "e"}}
	full := numberedNames("n", maxSet)
	for _, n := range []int64{0, -1, maxLevel + 1, math.MinInt64, math.MaxInt64} {
		for _, set := range [][]string{nil, {}, {"a"}, full} {
			r := impl.Request{Client: strings.Repeat("a", maxName), User: "b", Level: n, Now: -n, Asked: set, Agreed: full}
			if !impl.ValidRequest(r) {
				t.Errorf("%v is a valid request", r)
			}
			r.Asked, r.Agreed, r.Level, r.Now = r.Agreed, r.Asked, r.Now, r.Level
			if !impl.ValidRequest(r) {
				t.Errorf("%v is a valid request", r)
			}
		}
	}
	if !impl.ValidRequest(good) || impl.ValidRequest(impl.Request{}) {
		t.Error("an ordinary request is valid, an empty one is not")
	}
	for _, name := range []string{"", "A", "a b", strings.Repeat("a", maxName+1)} {
		client, user := good, good
		client.Client, user.User = name, name
		if impl.ValidRequest(client) || impl.ValidRequest(user) {
			t.Errorf("%q is no name", name)
		}
	}
	for why, names := range wrongSets() {
		asked, agreed := good, good
		asked.Asked, agreed.Agreed = names, names
		if impl.ValidRequest(asked) || impl.ValidRequest(agreed) {
			t.Errorf("%s: no scope set", why)
		}
	}
}
