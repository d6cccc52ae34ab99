package tests

import (
	"bytes"
	"encoding/binary"
	"errors"
	"io"
	"maps"
	"math/big"
	"slices"
	"strconv"
	"strings"

	"loop.example/s01308/impl"
)

// compileForms are the forms of 6.3 that have marks; X, Y and Z are the kids.
var compileForms = map[int]string{
	impl.OpAnd: "X; unless @F; Y; jump @E; @F; push false; @E",
	impl.OpOr:  "X; unless @F; push true; jump @E; @F; Y; @E",
	impl.OpIf:  "X; unless @F; Y; jump @E; @F; Z; @E",
}

// secondCompiler writes the instructions of a policy as a text to assemble.
type secondCompiler struct {
	marks int
}

func secondCompile(lines []line) impl.Code {
	var c secondCompiler
	var out []string
	slots := 0
	for _, l := range lines {
		switch l.kind {
		case impl.SLet:
			out = append(out, c.expression(l.cond), "store "+strconv.Itoa(slots))
			slots++
		case impl.SWhen:
			out = append(out, c.marked(c.expression(l.cond)+"; unless @L; "+c.decision(l.grant)+"; @L"))
		case impl.SElse:
			out = append(out, c.decision(l.grant))
		}
	}
	return assemble(slots, strings.Join(out, "\n"))
}

// marked gives the marks of a form names that no other has.
func (c *secondCompiler) marked(form string) string {
	c.marks++
	for _, mark := range []string{"@L", "@F", "@E"} {
		// A mark that has got its number already has a point behind its letter.
		form = strings.ReplaceAll(form+";", mark+";", mark+"."+strconv.Itoa(c.marks)+";")
	}
	return form
}

func (c *secondCompiler) decision(grant *tree) string {
	if grant == nil {
		return "deny"
	}
	return c.expression(grant) + "; grant"
}

func (c *secondCompiler) expression(t *tree) string {
	switch t.op {
	case impl.OpInt, impl.OpText, impl.OpBool, impl.OpSet:
		return "push " + writtenConstant(t)
	case impl.OpAttr:
		return "attr " + strconv.FormatInt(t.num, 10)
	case impl.OpLet:
		return "load " + strconv.FormatInt(t.num, 10)
	}
	form := compileForms[t.op]
	if form == "" {
		form = "X; Y; " + nameOfOperator(t.op)
		if len(t.kids) == 1 {
			form = "X; " + nameOfOperator(t.op)
		}
	}
	form = c.marked(form)
	var out []string
	for _, part := range strings.Split(form, ";") {
		part = strings.TrimSpace(part)
		if len(part) == 1 {
			part = c.expression(t.kids[part[0]-'X'])
		}
		out = append(out, part)
	}
	return strings.Join(out, ";")
}

func nameOfOperator(op int) string {
	for name, o := range operatorOf {
		if o == op {
			return name
		}
	}
	panic("no instruction for the operator " + strconv.Itoa(op))
}

func writtenConstant(t *tree) string {
	if t.op == impl.OpSet {
		return "{" + strings.Join(t.names, ",") + "}"
	}
	return printed(t)
}

// secondEncode writes the bytes of 6.4 by the library.
func secondEncode(c impl.Code) []byte {
	if !hasShape(c) {
		return nil
	}
	var out bytes.Buffer
	put := func(parts ...any) {
		for _, part := range parts {
			if err := binary.Write(&out, binary.BigEndian, part); err != nil {
				panic(err)
			}
		}
	}
	text := func(s string) { put(uint8(len(s)), []byte(s)) }
	put([]byte{80, 76, 49}, uint16(len(c.Pool)))
	for _, v := range c.Pool {
		put(uint8(v.Kind))
		switch v.Kind {
		case impl.TyBool:
			put(uint8(v.Num))
		case impl.TyInt:
			put(v.Num)
		case impl.TyText:
			text(v.Text)
		case impl.TySet:
			put(uint8(len(v.Names)))
			for _, name := range v.Names {
				text(name)
			}
		}
	}
	put(uint16(c.Slots), uint16(len(c.Ins)))
	for _, ins := range c.Ins {
		put(uint8(ins.Op), uint16(ins.Arg))
	}
	return out.Bytes()
}

// secondDecode reads what it can, and takes it if that is encoded as it was read.
func secondDecode(b []byte) (impl.Code, bool) {
	in := bytes.NewReader(b)
	var c impl.Code
	var mark [3]byte
	var err error
	get := func(into any) { err = errors.Join(err, binary.Read(in, binary.BigEndian, into)) }
	small := func() int { var n uint8; get(&n); return int(n) }
	count := func() int { var n uint16; get(&n); return int(n) }
	text := func() string {
		s := make([]byte, small())
		_, short := io.ReadFull(in, s)
		err = errors.Join(err, short)
		return string(s)
	}
	get(&mark)
	for n := count(); n > 0 && err == nil; n-- {
		v := impl.Value{Kind: small()}
		switch v.Kind {
		case impl.TyBool:
			v.Num = int64(small())
		case impl.TyInt:
			get(&v.Num)
		case impl.TyText:
			v.Text = text()
		case impl.TySet:
			for k := small(); k > 0; k-- {
				v.Names = append(v.Names, text())
			}
		}
		c.Pool = append(c.Pool, v)
	}
	c.Slots = count()
	for n := count(); n > 0 && err == nil; n-- {
		c.Ins = append(c.Ins, impl.Ins{Op: small(), Arg: count()})
	}
	if err != nil || !hasShape(c) || !bytes.Equal(secondEncode(c), b) {
		return impl.Code{}, false
	}
	return c, true
}

// effects says what instructions take from the top of the stack, and what they
// push: b, i, t and s are the types, T is any type, the same all over a row.
var effects = map[string]string{
	"store": "T>", "neg": "i>i", "not": "b>b", "size": "s>i",
	"add": "ii>i", "sub": "ii>i", "mul": "ii>i", "div": "ii>i", "mod": "ii>i",
	"union": "ss>s", "meet": "ss>s", "minus": "ss>s", "eq": "TT>b", "ne": "TT>b", "less": "ii>b", "most": "ii>b",
	"in": "ts>b", "within": "ss>b", "unless": "b>", "grant": "s>",
	"push": ">", "attr": ">", "load": ">", "jump": ">", "deny": ">",
}

const typeLetters = "-bits"

// secondState is a state as two texts: a letter a value, and a letter a slot.
type secondState struct{ stack, slots string }

// secondVerify says once more what 6.5 asks, with states as texts in a map.
func secondVerify(c impl.Code) (int, int) {
	if !hasShape(c) {
		return 0, impl.VShape
	}
	if len(c.Ins) == 0 {
		return 0, impl.VEnd
	}
	states := map[int]secondState{0: {slots: strings.Repeat("-", c.Slots)}}
	bound := 0
	for at := range c.Ins {
		ahead, ok := states[at]
		if !ok {
			return 0, impl.VDead
		}
		behind, wrong := secondStep(c, at, ahead)
		if wrong != impl.VOK {
			return 0, wrong
		}
		bound = max(bound, len(ahead.stack), len(behind.stack))
		for _, next := range secondNext(c.Ins[at], at) {
			if known, ok := states[next]; ok && known != behind {
				return 0, impl.VMerge
			}
			states[next] = behind
		}
	}
	return bound, impl.VOK
}

func secondNext(ins impl.Ins, at int) []int {
	switch insNames[ins.Op] {
	case "deny", "grant":
		return nil
	case "jump":
		return []int{ins.Arg}
	case "unless":
		return []int{ins.Arg, at + 1}
	}
	return []int{at + 1}
}

// secondStep looks for the lines 2 to 7.
func secondStep(c impl.Code, at int, ahead secondState) (secondState, int) {
	ins := c.Ins[at]
	name := insNames[ins.Op]
	least, most := 0, map[string]int{
		"push": len(c.Pool), "attr": 6, "load": c.Slots, "store": c.Slots, "jump": len(c.Ins), "unless": len(c.Ins),
	}[name]
	if name == "jump" || name == "unless" {
		least = at + 1
	}
	if mostArg(ins.Op) > 0 && (ins.Arg < least || ins.Arg >= most) {
		return ahead, impl.VRange
	}
	wanted, pushed, _ := strings.Cut(effects[name], ">")
	left := len(ahead.stack) - len(wanted)
	if left < 0 {
		return ahead, impl.VStack
	}
	taken := ahead.stack[left:]
	if len(wanted) > 0 && wanted[0] == 'T' {
		wanted = strings.Repeat(taken[:1], len(wanted))
	}
	if taken != wanted || name == "store" && ahead.slots[ins.Arg] != '-' && ahead.slots[ins.Arg] != taken[0] {
		return ahead, impl.VType
	}
	behind := secondState{stack: ahead.stack[:left] + pushed, slots: ahead.slots}
	switch name {
	case "push":
		behind.stack += typeLetters[c.Pool[ins.Arg].Kind:][:1]
	case "attr":
		behind.stack += "ttiiss"[ins.Arg:][:1]
	case "load":
		if ahead.slots[ins.Arg] == '-' {
			return ahead, impl.VSlot
		}
		behind.stack += ahead.slots[ins.Arg:][:1]
	case "store":
		behind.slots = ahead.slots[:ins.Arg] + taken + ahead.slots[ins.Arg+1:]
	}
	if len(behind.stack) > maxStack {
		return ahead, impl.VHeight
	}
	if at == len(c.Ins)-1 && slices.Contains(secondNext(ins, at), at+1) {
		return ahead, impl.VEnd
	}
	return behind, impl.VOK
}

// secondRun runs once more as 6.2 and 7 say, on the values of secondDecide.
func secondRun(c impl.Code, r impl.Request) (out impl.Trace) {
	var stack []any
	slots := make([]any, c.Slots)
	defer func() {
		switch x := recover().(type) {
		case nil:
		case stop:
			out.Out = failed(int(x))
		default:
			panic(x)
		}
	}()
	pop := func() any {
		v := stack[len(stack)-1]
		stack = stack[:len(stack)-1]
		return v
	}
	for at := 0; out.Out.Kind == 0; {
		ins := c.Ins[at]
		at++
		out.Steps++
		switch name := insNames[ins.Op]; name {
		case "push":
			stack = append(stack, secondValue(c.Pool[ins.Arg]))
		case "attr":
			stack = append(stack, []any{
				r.Client, r.User, big.NewInt(r.Level), big.NewInt(r.Now), held(r.Asked), held(r.Agreed),
			}[ins.Arg])
		case "load":
			stack = append(stack, slots[ins.Arg])
		case "store":
			slots[ins.Arg] = pop()
		case "jump":
			at = ins.Arg
		case "unless":
			if pop() == false {
				at = ins.Arg
			}
		case "deny":
			out.Out = denied()
		case "grant":
			out.Out = granted(slices.Sorted(maps.Keys(pop().(map[string]bool)))...)
		case "neg":
			stack = append(stack, fitting(new(big.Int).Neg(pop().(*big.Int))))
		case "not":
			stack = append(stack, !pop().(bool))
		case "size":
			stack = append(stack, big.NewInt(int64(len(pop().(map[string]bool)))))
		default:
			y, x := pop(), pop()
			stack = append(stack, operate(operatorOf[name], x, y))
		}
		out.Peak = max(out.Peak, len(stack))
	}
	return out
}

func secondValue(v impl.Value) any {
	switch v.Kind {
	case impl.TyBool:
		return v.Num == 1
	case impl.TyInt:
		return big.NewInt(v.Num)
	case impl.TyText:
		return v.Text
	}
	return held(v.Names)
}

func sameTrace(a, b impl.Trace) bool {
	return a.Steps == b.Steps && a.Peak == b.Peak && sameOutcome(a.Out, b.Out)
}
