package tests

import (
	"fmt"
	"slices"
	"strconv"
	"strings"
	"testing"

	"loop.example/s01308/impl"
)

// More limits that are said here once more.
const (
	maxPool  = 4000
	maxIns   = 20000
	maxStack = 100
	maxArg   = 65535
)

func TestLimitsAndNumbersOfCodes(t *testing.T) {
	got := []int{
		impl.MaxPool, impl.MaxIns, impl.MaxStack,
		impl.IPush, impl.IAttr, impl.ILoad, impl.IStore, impl.INeg, impl.INot, impl.ISize, impl.IAdd, impl.ISub, impl.IMul,
		impl.IDiv, impl.IMod, impl.IUnion, impl.IMeet, impl.IMinus, impl.IEq, impl.INe, impl.ILess, impl.IMost, impl.IIn,
		impl.IWithin, impl.IJump, impl.IUnless, impl.IDeny, impl.IGrant,
		impl.VOK, impl.VShape, impl.VDead, impl.VRange, impl.VStack, impl.VType, impl.VSlot, impl.VHeight, impl.VEnd, impl.VMerge,
	}
	want := []int{maxPool, maxIns, maxStack}
	for op := 1; op <= 25; op++ {
		want = append(want, op)
	}
	for wrong := 0; wrong <= 9; wrong++ {
		want = append(want, wrong)
	}
	if !slices.Equal(got, want) {
		t.Errorf("numbers %v, want %v", got, want)
	}
}

// brief keeps what is told of a great policy or code short.
func brief(v any) string {
	text := fmt.Sprintf("%+v", v)
	if len(text) > 2000 {
		return text[:2000] + " .."
	}
	return text
}

// insNames are the names of the instructions by their numbers.
var insNames = strings.Fields("none push attr load store neg not size add sub mul div mod union meet minus " +
	"eq ne less most in within jump unless deny grant")

// operatorOf says which operator an instruction stands for, by their names.
var operatorOf = map[string]int{
	"neg": impl.OpNeg, "not": impl.OpNot, "size": impl.OpSize,
	"add": impl.OpAdd, "sub": impl.OpSub, "mul": impl.OpMul, "div": impl.OpDiv, "mod": impl.OpMod,
	"union": impl.OpUnion, "meet": impl.OpMeet, "minus": impl.OpMinus, "eq": impl.OpEq, "ne": impl.OpNe,
	"less": impl.OpLess, "most": impl.OpMost, "in": impl.OpIn, "within": impl.OpWithin,
}

// assemble makes a code of a text of instructions, one behind the other with a
// semicolon or a line end between. A line that begins with @ is a mark, to which
// jumps may lead. What is pushed is written as in a policy, set names without
// quotes, or as a # and a place of the pool.
func assemble(slots int, text string) impl.Code {
	code := impl.Code{Slots: slots}
	marks := map[string]int{}
	var lines [][]string
	for _, l := range strings.FieldsFunc(text, func(r rune) bool { return r == ';' || r == '\n' }) {
		fields := strings.Fields(l)
		switch {
		case len(fields) == 0:
		case fields[0][0] == '@':
			marks[fields[0]] = len(lines)
		default:
			lines = append(lines, append(fields, ""))
		}
	}
	for _, fields := range lines {
		op, arg := slices.Index(insNames, fields[0]), 0
		place, isMark := marks[fields[1]]
		switch {
		case op < 1:
			panic("no instruction " + fields[0])
		case isMark:
			arg = place
		case fields[0] == "push" && fields[1][0] != '#':
			arg = poolPlace(&code.Pool, constantOf(fields[1]))
		case fields[1] != "":
			arg = must(strconv.Atoi(strings.TrimPrefix(fields[1], "#")))
		}
		code.Ins = append(code.Ins, impl.Ins{Op: op, Arg: arg})
	}
	return code
}

func must[T any](v T, err error) T {
	if err != nil {
		panic(err)
	}
	return v
}

func constantOf(text string) impl.Value {
	switch {
	case text == "true":
		return impl.Value{Kind: impl.TyBool, Num: 1}
	case text == "false":
		return impl.Value{Kind: impl.TyBool}
	case text == "{}":
		return impl.Value{Kind: impl.TySet}
	case text[0] == '{':
		return impl.Value{Kind: impl.TySet, Names: strings.Split(strings.Trim(text, "{}"), ",")}
	case text[0] == '"':
		return impl.Value{Kind: impl.TyText, Text: strings.Trim(text, `"`)}
	}
	return impl.Value{Kind: impl.TyInt, Num: must(strconv.ParseInt(text, 10, 64))}
}

func poolPlace(pool *[]impl.Value, v impl.Value) int {
	for i, old := range *pool {
		if sameValue(old, v) {
			return i
		}
	}
	*pool = append(*pool, v)
	return len(*pool) - 1
}

func sameValue(a, b impl.Value) bool {
	return a.Kind == b.Kind && a.Num == b.Num && a.Text == b.Text && slices.Equal(a.Names, b.Names)
}

func sameCode(a, b impl.Code) bool {
	return a.Slots == b.Slots && slices.Equal(a.Ins, b.Ins) && slices.EqualFunc(a.Pool, b.Pool, sameValue)
}

func isEmptyCode(c impl.Code) bool {
	return c.Slots == 0 && len(c.Ins) == 0 && len(c.Pool) == 0
}

func copyCode(c impl.Code) impl.Code {
	out := impl.Code{Pool: slices.Clone(c.Pool), Slots: c.Slots, Ins: slices.Clone(c.Ins)}
	for i := range out.Pool {
		out.Pool[i].Names = slices.Clone(out.Pool[i].Names)
	}
	return out
}

// hasShape says once more what 6.1 asks, value by value and instruction by
// instruction: what is left when the one field that may be set is taken out must be
// nothing.
func hasShape(c impl.Code) bool {
	if len(c.Pool) > maxPool || len(c.Ins) > maxIns || c.Slots < 0 || c.Slots > maxStmts {
		return false
	}
	for _, v := range c.Pool {
		fits := false
		rest := v
		switch v.Kind {
		case impl.TyBool:
			fits, rest.Num = v.Num == 0 || v.Num == 1, 0
		case impl.TyInt:
			fits, rest.Num = true, 0
		case impl.TyText:
			fits, rest.Text = v.Text == "" || isName(v.Text), ""
		case impl.TySet:
			fits, rest.Names = isScopeSet(v.Names), nil
		}
		if !fits || !sameValue(rest, impl.Value{Kind: v.Kind}) {
			return false
		}
	}
	for _, ins := range c.Ins {
		if ins.Op < 1 || ins.Op > 25 || ins.Arg < 0 || ins.Arg > mostArg(ins.Op) {
			return false
		}
	}
	return true
}

func mostArg(op int) int {
	if strings.Contains(" push attr load store jump unless ", " "+insNames[op]+" ") {
		return maxArg
	}
	return 0
}

// shapedCode has a value of each kind, slots, and an instruction of each Op; it is
// of the right shape, and nothing more is asked of it.
func shapedCode() impl.Code {
	c := impl.Code{
		Pool: []impl.Value{
			{Kind: impl.TyBool}, {Kind: impl.TyBool, Num: 1},
			{Kind: impl.TyInt}, {Kind: impl.TyInt, Num: -2},
			{Kind: impl.TyText}, {Kind: impl.TyText, Text: "a.b"},
			{Kind: impl.TySet}, {Kind: impl.TySet, Names: []string{"a", "ab", "b"}},
		},
		Slots: 3,
	}
	for op := 1; op <= 25; op++ {
		c.Ins = append(c.Ins, impl.Ins{Op: op, Arg: min(mostArg(op), 258)})
	}
	return c
}
