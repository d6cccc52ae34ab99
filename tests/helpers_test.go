package tests

import (
	"math/rand"
	"slices"
	"strconv"
	"strings"
	"testing"

	"loop.example/s01308/impl"
)

// The limits are said here once more, so that a changed constant is noticed.
const (
	maxText  = 4000
	maxName  = 32
	maxSet   = 64
	maxList  = 400
	maxLevel = 9999999
)

const nameAlphabet = "abcdefghijklmnopqrstuvwxyz0123456789._-:"

func TestLimits(t *testing.T) {
	got := []int{impl.MaxText, impl.MaxName, impl.MaxSet, impl.MaxList, impl.MaxLevel}
	want := []int{maxText, maxName, maxSet, maxList, maxLevel}
	if !slices.Equal(got, want) {
		t.Errorf("limits %v, want %v", got, want)
	}
}

func TestNumbersOfCodes(t *testing.T) {
	got := []int{
		impl.EvalOK, impl.EvalOverflow, impl.EvalZero, impl.EvalWide, impl.EvalShape,
		impl.CalcAdd, impl.CalcSub, impl.CalcMul, impl.CalcDiv, impl.CalcMod,
		impl.SetOK, impl.SetLong, impl.SetName, impl.SetWide,
	}
	want := []int{0, 1, 2, 3, 4, 1, 2, 3, 4, 5, 0, 1, 2, 3}
	if !slices.Equal(got, want) {
		t.Errorf("codes %v, want %v", got, want)
	}
}

// numberedNames gives n different names in rising order.
func numberedNames(prefix string, n int) []string {
	names := make([]string, n)
	for i := range names {
		digits := strconv.Itoa(i)
		names[i] = prefix + strings.Repeat("0", 4-len(digits)) + digits
	}
	return names
}

// isName says once more what a name is, by looking each byte up.
func isName(s string) bool {
	for i := range len(s) {
		if strings.IndexByte(nameAlphabet, s[i]) < 0 {
			return false
		}
	}
	return len(s) >= 1 && len(s) <= maxName
}

// isScopeSet says once more what a scope set is, by sorting.
func isScopeSet(names []string) bool {
	return len(names) <= maxSet && !slices.ContainsFunc(names, notName) &&
		slices.Equal(names, distinct(names))
}

func notName(s string) bool { return !isName(s) }

// distinct gives the different texts of a list in bytewise order.
func distinct(names []string) []string {
	held := map[string]bool{}
	var out []string
	for _, name := range names {
		if !held[name] {
			held[name] = true
			out = append(out, name)
		}
	}
	slices.SortFunc(out, strings.Compare)
	return out
}

func randomName(random *rand.Rand, most int) string {
	b := make([]byte, 1+random.Intn(most))
	for i := range b {
		b[i] = nameAlphabet[random.Intn(len(nameAlphabet))]
	}
	return string(b)
}

// randomSet gives a scope set; short names make it likely that two of them meet.
func randomSet(random *rand.Rand, most, nameBytes int) []string {
	var names []string
	for range random.Intn(most + 1) {
		names = append(names, randomName(random, nameBytes))
	}
	return distinct(names)
}

// wrongSets are lists that are no scope sets, each for one reason alone.
func wrongSets() map[string][]string {
	return map[string][]string{
		"falling":            {"b", "a"},
		"repeated":           {"a", "a"},
		"repeated at end":    {"a", "b", "b"},
		"empty name":         {""},
		"empty name ahead":   {"", "a"},
		"capital letter":     {"A"},
		"long name":          {strings.Repeat("a", maxName+1)},
		"too many names":     numberedNames("n", maxSet+1),
		"prefix behind":      {"ab", "a"},
		"high byte":          {"a", "a\xff"},
		"nul byte":           {"a\x00"},
		"last one is wrong":  {"a", "b", "c d"},
		"first out of order": {"z", "a", "b"},
		"many repeated":      slices.Repeat([]string{"a"}, maxList+1),
	}
}
