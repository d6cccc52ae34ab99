package tests

import (
	"math/rand"
	"slices"
	"strings"
	"testing"

	"loop.example/s01308/impl"
)

func TestEveryByteOfNames(t *testing.T) {
	for c := range 256 {
		for _, s := range []string{string([]byte{byte(c)}), string([]byte{'a', byte(c)}), string([]byte{byte(c), 'a'})} {
			want := strings.IndexByte(nameAlphabet, byte(c)) >= 0
			if got := impl.ValidName(s); got != want {
				t.Errorf("ValidName(%q) = %v", s, got)
			}
		}
	}
}

func TestLengthsOfNames(t *testing.T) {
	for _, n := range []int{0, 1, 2, maxName - 1, maxName, maxName + 1, 2 * maxName, 100000} {
		want := n >= 1 && n <= maxName
		if got := impl.ValidName(strings.Repeat("z", n)); got != want {
			t.Errorf("ValidName of %d bytes = %v", n, got)
		}
	}
	// 32 bytes, but fewer characters: bytes count, and these are none of a name's.
	if impl.ValidName(strings.Repeat("é", maxName/2)) {
		t.Error("a text with other letters is no name")
	}
}

func TestIsSetEdges(t *testing.T) {
	good := [][]string{
		nil,
		{},
		{"a"},
		{"a", "aa", "ab", "b"},
		{"-", ".", "0", "9", ":", "_", "a", "z"}, // bytewise order of the kinds of bytes
		{strings.Repeat("a", maxName)},
		numberedNames("n", maxSet),
	}
	for _, names := range good {
		if !impl.IsSet(names) {
			t.Errorf("%q is a scope set", names)
		}
	}
	for why, names := range wrongSets() {
		if impl.IsSet(names) {
			t.Errorf("%s: no scope set", why)
		}
	}
}

func TestMakeSetEdges(t *testing.T) {
	wide := numberedNames("n", maxSet+1)
	repeated := slices.Repeat([]string{"b", "a"}, maxList/2)
	full := append(slices.Repeat([]string{"n0001"}, maxList-maxSet), numberedNames("n", maxSet)...)
	cases := []struct {
		why   string
		names []string
		set   []string
		code  int
	}{
		{"nothing", nil, nil, impl.SetOK},
		{"empty list", []string{}, nil, impl.SetOK},
		{"one", []string{"x"}, []string{"x"}, impl.SetOK},
		{"order and repetition", []string{"b", "a", "b", "ab", "a"}, []string{"a", "ab", "b"}, impl.SetOK},
		{"bytewise", []string{"a", "_", ":", "9", "0", ".", "-"}, []string{"-", ".", "0", "9", ":", "_", "a"}, impl.SetOK},
		{"longest name", []string{strings.Repeat("a", maxName)}, []string{strings.Repeat("a", maxName)}, impl.SetOK},
		{"empty name", []string{""}, nil, impl.SetName},
		{"empty name among others", []string{"a", "", "b"}, nil, impl.SetName},
		{"name too long", []string{strings.Repeat("a", maxName+1)}, nil, impl.SetName},
		{"last is no name", []string{"a", "b", "C"}, nil, impl.SetName},
		{"longest list", repeated, []string{"a", "b"}, impl.SetOK},
		{"list too long", append(slices.Clone(repeated), "a"), nil, impl.SetLong},
		{"longest list, widest set", full, numberedNames("n", maxSet), impl.SetOK},
		{"widest set", wide[:maxSet], wide[:maxSet], impl.SetOK},
		{"set too wide", wide, nil, impl.SetWide},
		{"set too wide, list longest", numberedNames("n", maxList), nil, impl.SetWide},
		{"too long and too wide", numberedNames("n", maxList+1), nil, impl.SetLong},
		{"too long and no names", make([]string, maxList+1), nil, impl.SetLong},
		{"longest and no names", make([]string, maxList), nil, impl.SetName},
		{"too wide and no name behind", append(numberedNames("n", maxSet+1), "A"), nil, impl.SetName},
		{"too wide and no name ahead", append([]string{""}, numberedNames("n", maxSet+1)...), nil, impl.SetName},
		{"all three", append([]string{"A"}, numberedNames("n", maxList)...), nil, impl.SetLong},
	}
	for _, c := range cases {
		set, code := impl.MakeSet(c.names)
		if code != c.code || !slices.Equal(set, c.set) {
			t.Errorf("%s: %q, %d, want %q, %d", c.why, set, code, c.set, c.code)
		}
	}
}

func TestMakeSetHoldsExactlyTheNames(t *testing.T) {
	random := rand.New(rand.NewSource(1))
	for range 3000 {
		var names []string
		for range random.Intn(maxList + 3) {
			names = append(names, randomName(random, 2))
		}
		if len(names) > 0 && random.Intn(4) == 0 {
			names[random.Intn(len(names))] = []string{"", "A", "a b"}[random.Intn(3)]
		}
		if random.Intn(2) == 0 {
			names = names[:min(len(names), random.Intn(80))]
		}
		wantSet, wantCode := modelMakeSet(names)
		if set, code := impl.MakeSet(names); code != wantCode || !slices.Equal(set, wantSet) {
			t.Fatalf("MakeSet(%q) = %q, %d, want %q, %d", names, set, code, wantSet, wantCode)
		}
	}
}

func modelMakeSet(names []string) ([]string, int) {
	set := distinct(names)
	switch {
	case len(names) > maxList:
		return nil, impl.SetLong
	case slices.ContainsFunc(names, notName):
		return nil, impl.SetName
	case len(set) > maxSet:
		return nil, impl.SetWide
	}
	return set, impl.SetOK
}

func TestSetOperationsAgainstMembership(t *testing.T) {
	random := rand.New(rand.NewSource(2))
	wide := 0
	for range 4000 {
		most := []int{0, 1, 3, 20, maxSet}[random.Intn(5)]
		a, b := randomSet(random, most, 2), randomSet(random, maxSet, 2)
		switch random.Intn(4) {
		case 0:
			a, b = b, a
		case 1:
			a = evenOnes(b)
		}
		checkOperations(t, a, b)
		if len(distinct(append(slices.Clone(a), b...))) > maxSet {
			wide++
		}
	}
	if wide == 0 {
		t.Error("no union was too wide: the test looks at too little")
	}
}

// evenOnes gives a set that lies in the other.
func evenOnes(set []string) []string {
	var out []string
	for i := 0; i < len(set); i += 2 {
		out = append(out, set[i])
	}
	return out
}

func checkOperations(t *testing.T, a, b []string) {
	t.Helper()
	both := distinct(append(slices.Clone(a), b...))
	inA := func(s string) bool { return slices.Contains(a, s) }
	inB := func(s string) bool { return slices.Contains(b, s) }
	var meet, minus []string
	for _, s := range both {
		if inA(s) && inB(s) {
			meet = append(meet, s)
		}
		if inA(s) && !inB(s) {
			minus = append(minus, s)
		}
	}
	code := impl.EvalOK
	if len(both) > maxSet {
		both, code = nil, impl.EvalWide
	}
	if set, c := impl.Union(a, b); c != code || !slices.Equal(set, both) {
		t.Errorf("Union(%q, %q) = %q, %d", a, b, set, c)
	}
	if set := impl.Meet(a, b); !slices.Equal(set, meet) {
		t.Errorf("Meet(%q, %q) = %q", a, b, set)
	}
	if set := impl.Minus(a, b); !slices.Equal(set, minus) {
		t.Errorf("Minus(%q, %q) = %q", a, b, set)
	}
	if got := impl.Within(a, b); got != (len(minus) == 0) {
		t.Errorf("Within(%q, %q) = %v", a, b, got)
	}
}

func TestSetOperationsAtTheBound(t *testing.T) {
	full := numberedNames("n", maxSet)
	odd := numberedNames("m", maxSet)
	for _, pair := range [][2][]string{
		{nil, nil},
		{full, nil},
		{nil, full},
		{full, full},
		{full[:32], full[32:]},
		{full[:33], full[31:]},
		{full[:63], odd[:1]},
		{full[:63], odd[:2]},
		{full, odd[:1]},
		{odd[:1], full},
		{odd[:1], full[:63]},
		{full, odd},
		{{"a"}, {"a", "aa"}},
		{{"aa", "b"}, {"a", "b"}},
	} {
		checkOperations(t, pair[0], pair[1])
	}
	if set, code := impl.Union(full[:32], full[32:]); code != impl.EvalOK || len(set) != maxSet {
		t.Errorf("a union of %d names is one: %d names, %d", maxSet, len(set), code)
	}
	if set, code := impl.Union(full, odd[:1]); code != impl.EvalWide || len(set) != 0 {
		t.Errorf("a union of %d names is refused: %d names, %d", maxSet+1, len(set), code)
	}
}

func TestSetOperationsOnWhatIsNoSet(t *testing.T) {
	for why, wrong := range wrongSets() {
		for _, good := range [][]string{nil, {"a"}, {"a", "b", "c"}, numberedNames("q", maxSet)} {
			checkRefused(t, why+" on the left", wrong, good)
			checkRefused(t, why+" on the right", good, wrong)
		}
		checkRefused(t, why+" on both sides", wrong, wrong)
	}
}

func checkRefused(t *testing.T, why string, a, b []string) {
	t.Helper()
	if set, code := impl.Union(a, b); len(set) != 0 || code != impl.EvalShape {
		t.Errorf("%s: Union %q, %d", why, set, code)
	}
	if set := impl.Meet(a, b); len(set) != 0 {
		t.Errorf("%s: Meet %q", why, set)
	}
	if set := impl.Minus(a, b); len(set) != 0 {
		t.Errorf("%s: Minus %q", why, set)
	}
	if impl.Within(a, b) {
		t.Errorf("%s: Within", why)
	}
}
