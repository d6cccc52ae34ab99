package impl

import (
	"cmp"
	"errors"
	"math"
	"slices"
	"strconv"
	"strings"
)

// Limits that hold everywhere.
const (
	MaxText  = 4000    // bytes of a policy, and of an ask
	MaxName  = 32      // bytes of a name
	MaxSet   = 64      // names of a scope set
	MaxList  = 400     // names of a list that is to become a set
	MaxLevel = 9999999 // the greatest level of an ask
)

// What arithmetic and evaluation may end with, beside a value.
const (
	EvalOK       = 0
	EvalOverflow = 1
	EvalZero     = 2
	EvalWide     = 3
	EvalShape    = 4
)

// Operations of Calc.
const (
	CalcAdd = 1
	CalcSub = 2
	CalcMul = 3
	CalcDiv = 4
	CalcMod = 5
)

// What MakeSet may say.
const (
	SetOK   = 0
	SetLong = 1
	SetName = 2
	SetWide = 3
)

// Ask is what a client asks for.
type Ask struct {
	Client string
	User   string
	Level  int64
	Asked  []string
}

// Request is what a policy is asked about.
type Request struct {
	Client string
	User   string
	Level  int64
	Now    int64
	Asked  []string
	Agreed []string
}

// The text of an ask is its fields behind these labels.
const (
	clientLabel = "client="
	userLabel   = "user="
	levelLabel  = "level="
	askLabel    = "ask="
)

// levelDigits is small enough that no level of so many digits exceeds MaxLevel.
const levelDigits = 7

// What an evaluation may end with; the faces tell them as the Eval numbers.
var (
	errOverflow = errors.New("the number does not fit")
	errZero     = errors.New("division by zero")
	errWidth    = errors.New("the set has too many names")
	errShape    = errors.New("ill-formed argument")
)

// side tells in which of two merged lists an element stands.
type side int

const (
	leftOnly side = iota
	rightOnly
	bothSides
)

func ValidName(s string) bool {
	return s != "" && nameBytes(s)
}

// nameBytes holds for the empty text too, since a quoted text of a policy may
// be empty where a name may not.
func nameBytes(s string) bool {
	if len(s) > MaxName {
		return false
	}
	for i := range len(s) {
		if !nameByte(s[i]) {
			return false
		}
	}
	return true
}

func nameByte(c byte) bool {
	switch c {
	case '.', '_', '-', ':':
		return true
	}
	return c >= 'a' && c <= 'z' || isDigit(c)
}

func isDigit(c byte) bool {
	return c >= '0' && c <= '9'
}

func MakeSet(names []string) ([]string, int) {
	if len(names) > MaxList {
		return nil, SetLong
	}
	if !allNames(names) {
		return nil, SetName
	}
	set := slices.Clone(names)
	slices.Sort(set)
	set = slices.Compact(set)
	if len(set) > MaxSet {
		return nil, SetWide
	}
	return set, SetOK
}

func allNames(names []string) bool {
	for _, name := range names {
		if !ValidName(name) {
			return false
		}
	}
	return true
}

func IsSet(names []string) bool {
	return len(names) <= MaxSet && allNames(names) && strictlyRising(names)
}

func strictlyRising(names []string) bool {
	for i := 1; i < len(names); i++ {
		if names[i-1] >= names[i] {
			return false
		}
	}
	return true
}

func Union(a, b []string) ([]string, int) {
	set, err := unite(a, b)
	return set, evalCode(err)
}

func unite(a, b []string) ([]string, error) {
	if !IsSet(a) || !IsSet(b) {
		return nil, errShape
	}
	set := merge(a, b, onAnySide)
	if len(set) > MaxSet {
		return nil, errWidth
	}
	return set, nil
}

func Meet(a, b []string) []string {
	if !IsSet(a) || !IsSet(b) {
		return nil
	}
	return merge(a, b, onBothSides)
}

func Minus(a, b []string) []string {
	if !IsSet(a) || !IsSet(b) {
		return nil
	}
	return merge(a, b, onLeftOnly)
}

func Within(a, b []string) bool {
	return IsSet(a) && IsSet(b) && len(merge(a, b, onLeftOnly)) == 0
}

func onAnySide(side) bool { return true }

func onBothSides(s side) bool { return s == bothSides }

func onLeftOnly(s side) bool { return s == leftOnly }

// merge needs both lists in strictly rising order, and answers such a list.
func merge[T cmp.Ordered](a, b []T, keep func(side) bool) []T {
	var kept []T
	i, j := 0, 0
	for i < len(a) || j < len(b) {
		var next T
		where := bothSides
		switch {
		case j == len(b) || i < len(a) && a[i] < b[j]:
			next, where = a[i], leftOnly
			i++
		case i == len(a) || b[j] < a[i]:
			next, where = b[j], rightOnly
			j++
		default:
			next = a[i]
			i++
			j++
		}
		if keep(where) {
			kept = append(kept, next)
		}
	}
	return kept
}

func Calc(op int, a, b int64) (int64, int) {
	v, err := calculate(op, a, b)
	return v, evalCode(err)
}

// evalCode takes an error that is none of its own for a wrong shape, so that
// nothing that went wrong can pass for EvalOK.
func evalCode(err error) int {
	switch {
	case err == nil:
		return EvalOK
	case errors.Is(err, errOverflow):
		return EvalOverflow
	case errors.Is(err, errZero):
		return EvalZero
	case errors.Is(err, errWidth):
		return EvalWide
	}
	return EvalShape
}

func calculate(op int, a, b int64) (int64, error) {
	switch op {
	case CalcAdd:
		return add(a, b)
	case CalcSub:
		return subtract(a, b)
	case CalcMul:
		return multiply(a, b)
	case CalcDiv:
		return divide(a, b)
	case CalcMod:
		return remainder(a, b)
	}
	return 0, errShape
}

func add(a, b int64) (int64, error) {
	if b > 0 && a > math.MaxInt64-b || b < 0 && a < math.MinInt64-b {
		return 0, errOverflow
	}
	return a + b, nil
}

func subtract(a, b int64) (int64, error) {
	if b < 0 && a > math.MaxInt64+b || b > 0 && a < math.MinInt64+b {
		return 0, errOverflow
	}
	return a - b, nil
}

func multiply(a, b int64) (int64, error) {
	if a == 0 {
		return 0, nil
	}
	// The check by division below cannot divide the smallest number by -1.
	if a == -1 {
		return subtract(0, b)
	}
	v := a * b
	if v/a != b {
		return 0, errOverflow
	}
	return v, nil
}

func divide(a, b int64) (int64, error) {
	if b == 0 {
		return 0, errZero
	}
	if a == math.MinInt64 && b == -1 {
		return 0, errOverflow
	}
	return a / b, nil
}

func remainder(a, b int64) (int64, error) {
	if b == 0 {
		return 0, errZero
	}
	// The quotient by -1 may not fit, what remains is 0 all the same.
	if b == -1 {
		return 0, nil
	}
	return a % b, nil
}

func ParseAsk(text string) (Ask, bool) {
	if len(text) > MaxText {
		return Ask{}, false
	}
	client, rest, okClient := cutField(text, clientLabel)
	user, rest, okUser := cutField(rest, userLabel)
	digits, rest, okLevel := cutField(rest, levelLabel)
	list, okAsk := strings.CutPrefix(rest, askLabel)
	if !okClient || !okUser || !okLevel || !okAsk {
		return Ask{}, false
	}
	level, okDigits := readLevel(digits)
	asked, okList := readList(list)
	if !ValidName(client) || !ValidName(user) || !okDigits || !okList {
		return Ask{}, false
	}
	return Ask{Client: client, User: user, Level: level, Asked: asked}, true
}

// cutField cuts off what stands between the label, which must come first, and
// the next space, which must be there.
func cutField(text, label string) (string, string, bool) {
	behind, ok := strings.CutPrefix(text, label)
	if !ok {
		return "", "", false
	}
	return strings.Cut(behind, " ")
}

func readLevel(digits string) (int64, bool) {
	if len(digits) > 1 && digits[0] == '0' {
		return 0, false
	}
	return readDigits(digits, levelDigits)
}

// readDigits needs a bound of digits that is small enough for an int64.
func readDigits(digits string, most int) (int64, bool) {
	if digits == "" || len(digits) > most {
		return 0, false
	}
	var num int64
	for i := range len(digits) {
		if !isDigit(digits[i]) {
			return 0, false
		}
		num = num*10 + int64(digits[i]-'0')
	}
	return num, true
}

// readList takes the empty text apart from the others, since cutting it at
// commas would give one empty name.
func readList(text string) ([]string, bool) {
	if text == "" {
		return nil, true
	}
	set, code := MakeSet(strings.Split(text, ","))
	return set, code == SetOK
}

func FormatAsk(a Ask) string {
	if !validAsk(a) {
		return ""
	}
	fields := []string{
		clientLabel + a.Client,
		userLabel + a.User,
		levelLabel + strconv.FormatInt(a.Level, 10),
		askLabel + strings.Join(a.Asked, ","),
	}
	return strings.Join(fields, " ")
}

func validAsk(a Ask) bool {
	return ValidName(a.Client) && ValidName(a.User) &&
		a.Level >= 0 && a.Level <= MaxLevel && IsSet(a.Asked)
}

func ValidRequest(r Request) bool {
	return ValidName(r.Client) && ValidName(r.User) && IsSet(r.Asked) && IsSet(r.Agreed)
}
