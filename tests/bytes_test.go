package tests

import (
	"bytes"
	"math"
	"math/rand"
	"slices"
	"strings"
	"testing"

	"loop.example/s01308/impl"
)

// checkEncoded holds P11 for a code.
func checkEncoded(t *testing.T, c impl.Code) []byte {
	t.Helper()
	b := impl.EncodeCode(c)
	if want := secondEncode(c); !bytes.Equal(b, want) {
		t.Fatalf("EncodeCode(%s) = %s, want %s", brief(c), brief(b), brief(want))
	}
	decoded, ok := impl.DecodeCode(b)
	if !ok || !sameCode(decoded, c) {
		t.Fatalf("%s is decoded as %s, %v", brief(c), brief(decoded), ok)
	}
	return b
}

// checkDecoded holds P11 for bytes.
func checkDecoded(t *testing.T, b []byte) bool {
	t.Helper()
	want, wantOK := secondDecode(b)
	got, ok := impl.DecodeCode(b)
	if ok != wantOK || !sameCode(got, want) {
		t.Fatalf("DecodeCode(%q) = %s, %v, want %s, %v", brief(b), brief(got), ok, brief(want), wantOK)
	}
	if again := impl.EncodeCode(got); ok && !bytes.Equal(again, b) {
		t.Fatalf("%q is decoded as %s, and encoded as %q", brief(b), brief(got), brief(again))
	}
	return ok
}

func wantNoCode(t *testing.T, why string, b []byte) {
	t.Helper()
	if got, ok := impl.DecodeCode(b); ok || !isEmptyCode(got) {
		t.Errorf("%s: %q is decoded as %s, %v", why, brief(string(b)), brief(got), ok)
	}
	if _, ok := secondDecode(b); ok {
		t.Errorf("%s: %q is decoded by the second reading", why, brief(string(b)))
	}
}

func TestEncodeByHand(t *testing.T) {
	for want, c := range map[string]impl.Code{
		"PL1\x00\x00\x00\x00\x00\x00":                                     {},
		"PL1\x00\x00\x02\x58\x00\x01\x18\x00\x00":                         {Slots: 600, Ins: []impl.Ins{{Op: impl.IDeny}}},
		"PL1\x00\x00\x00\x01\x00\x01\x16\xff\xff":                         {Slots: 1, Ins: []impl.Ins{{Op: impl.IJump, Arg: 65535}}},
		"PL1\x00\x00\x00\x00\x00\x02\x01\x01\x00\x17\x00\xff":             {Ins: []impl.Ins{{Op: impl.IPush, Arg: 256}, {Op: impl.IUnless, Arg: 255}}},
		"PL1\x00\x01\x01\x00\x00\x00\x00\x00":                             {Pool: []impl.Value{{Kind: impl.TyBool}}},
		"PL1\x00\x01\x01\x01\x00\x00\x00\x00":                             {Pool: []impl.Value{{Kind: impl.TyBool, Num: 1}}},
		"PL1\x00\x01\x02\x00\x00\x00\x00\x00\x00\x00\x00\x00\x00\x00\x00": {Pool: []impl.Value{{Kind: impl.TyInt}}},
		"PL1\x00\x01\x02\x01\x02\x03\x04\x05\x06\x07\x08\x00\x00\x00\x00": {Pool: []impl.Value{{Kind: impl.TyInt, Num: 0x0102030405060708}}},
		"PL1\x00\x01\x02\xff\xff\xff\xff\xff\xff\xff\xff\x00\x00\x00\x00": {Pool: []impl.Value{{Kind: impl.TyInt, Num: -1}}},
		"PL1\x00\x01\x02\x80\x00\x00\x00\x00\x00\x00\x00\x00\x00\x00\x00": {Pool: []impl.Value{{Kind: impl.TyInt, Num: math.MinInt64}}},
		"PL1\x00\x01\x02\x7f\xff\xff\xff\xff\xff\xff\xff\x00\x00\x00\x00": {Pool: []impl.Value{{Kind: impl.TyInt, Num: math.MaxInt64}}},
		"PL1\x00\x01\x03\x00\x00\x00\x00\x00":                             {Pool: []impl.Value{{Kind: impl.TyText}}},
		"PL1\x00\x01\x03\x03a.b\x00\x00\x00\x00":                          {Pool: []impl.Value{{Kind: impl.TyText, Text: "a.b"}}},
		"PL1\x00\x01\x04\x00\x00\x00\x00\x00":                             {Pool: []impl.Value{{Kind: impl.TySet}}},
		"PL1\x00\x01\x04\x02\x01a\x02bc\x00\x00\x00\x00":                  {Pool: []impl.Value{{Kind: impl.TySet, Names: []string{"a", "bc"}}}},
		// A pool may hold equal values.
		"PL1\x00\x02\x01\x01\x01\x01\x00\x02\x00\x00": {Pool: []impl.Value{{Kind: impl.TyBool, Num: 1}, {Kind: impl.TyBool, Num: 1}}, Slots: 2},
	} {
		if got := checkEncoded(t, c); string(got) != want {
			t.Errorf("EncodeCode(%+v) = %q, want %q", c, got, want)
		}
		if !checkDecoded(t, []byte(want)) {
			t.Errorf("%q is not decoded", want)
		}
	}
}

func TestEncodeEachValueAndInstruction(t *testing.T) {
	checkEncoded(t, shapedCode())
	for op := 1; op <= 25; op++ {
		for _, arg := range []int{0, 1, 255, 256, maxArg} {
			checkEncoded(t, impl.Code{Ins: []impl.Ins{{Op: op, Arg: min(arg, mostArg(op))}}})
		}
	}
	for n := range maxName + 1 {
		checkEncoded(t, impl.Code{Pool: []impl.Value{{Kind: impl.TyText, Text: strings.Repeat("x", n)}}})
	}
	for n := range maxSet + 1 {
		checkEncoded(t, impl.Code{Pool: []impl.Value{{Kind: impl.TySet, Names: numberedNames("n", n)}}})
	}
	for _, slots := range []int{0, 1, 255, 256, 257, maxStmts} {
		checkEncoded(t, impl.Code{Slots: slots})
	}
	for shift := range 64 {
		for _, num := range []int64{1 << shift, -1 << shift, 1<<shift - 1} {
			checkEncoded(t, impl.Code{Pool: []impl.Value{{Kind: impl.TyInt, Num: num}}})
		}
	}
}

func TestEncodeAtTheLimits(t *testing.T) {
	for _, c := range greatCodes() {
		b := checkEncoded(t, c)
		wantNoCode(t, "cut", b[:len(b)-1])
		wantNoCode(t, "longer", append(slices.Clone(b), 0))
	}
}

func TestEncodeWithoutShape(t *testing.T) {
	for why, c := range wrongShapes() {
		if got := impl.EncodeCode(c); len(got) != 0 {
			t.Errorf("%s: %q", why, got)
		}
	}
}

// codesToSpoil are small enough that all their bytes can be changed in all ways.
func codesToSpoil() []impl.Code {
	return []impl.Code{
		{}, shapedCode(), {Slots: 600}, assemble(0, "attr 4; grant"),
		assemble(2, `push -1; store 0; push "a:b"; store 1; push {a,ab,b}; push true; unless @a; grant; @a; deny`),
		{Pool: []impl.Value{{Kind: impl.TySet, Names: []string{"a", "b"}}, {Kind: impl.TyText, Text: "ab"}, {Kind: impl.TyBool, Num: 1}, {Kind: impl.TyInt, Num: 1}}},
	}
}

func TestDecodeEachByteChanged(t *testing.T) {
	counts := map[bool]int{}
	for _, c := range codesToSpoil() {
		b := checkEncoded(t, c)
		for at := range b {
			for other := range 256 {
				changed := slices.Clone(b)
				changed[at] = byte(other)
				counts[checkDecoded(t, changed)]++
			}
		}
	}
	if counts[true] < 1000 || counts[false] < 1000 {
		t.Errorf("decoded and not: %v", counts)
	}
}

// Too short at each place, too long at each place, and a byte too many at the end.
func TestDecodeCutAndLonger(t *testing.T) {
	for _, c := range codesToSpoil() {
		b := checkEncoded(t, c)
		for at := range b {
			wantNoCode(t, "cut", b[:at])
			checkDecoded(t, slices.Delete(slices.Clone(b), at, at+1))
			checkDecoded(t, b[at+1:])
			for other := range 256 {
				checkDecoded(t, slices.Insert(slices.Clone(b), at, byte(other)))
			}
		}
		for other := range 256 {
			wantNoCode(t, "longer", append(slices.Clone(b), byte(other)))
		}
		wantNoCode(t, "twice", append(slices.Clone(b), b...))
	}
}

// poolBytes are the bytes of a code with one value and no instructions.
func poolBytes(value string) []byte { return []byte("PL1\x00\x01" + value + "\x00\x00\x00\x00") }

func TestDecodeWrongValues(t *testing.T) {
	for why, value := range map[string]string{
		"no kind": "\x00", "a kind that is none": "\x05", "another kind that is none": "\x05\x00", "the last kind": "\xff\x00",
		"a truth of 2": "\x01\x02", "a truth of 255": "\x01\xff", "a truth of two bytes": "\x01\x00\x01", "a number that is too short": "\x02\x00\x00\x00",
		"a number that is too long": "\x02\x00\x00\x00\x00\x00\x00\x00\x00\x01",
		"a text that is too long":   "\x03\x21" + strings.Repeat("a", 33), "a text with a capital": "\x03\x01A",
		"a text with a space": "\x03\x03a b", "a text with a nul": "\x03\x01\x00", "a text with a high byte": "\x03\x01\xe9",
		"a text that is shorter": "\x03\x02a", "a text that is longer": "\x03\x01aa", "a text of 255 bytes": "\x03\xff" + strings.Repeat("a", 255),
		"falling names": "\x04\x02\x01b\x01a", "double names": "\x04\x02\x01a\x01a", "an empty name": "\x04\x01\x00",
		"an empty name ahead": "\x04\x02\x00\x01a", "a name that is too long": "\x04\x01\x21" + strings.Repeat("a", 33),
		"a name with a capital": "\x04\x01\x01A", "a name with a comma": "\x04\x01\x03a,b", "a name with a high byte": "\x04\x01\x02a\xff",
		"a longer name ahead": "\x04\x02\x02ab\x01a", "a name too few": "\x04\x02\x01a", "a name too many": "\x04\x01\x01a\x01b",
		"65 names": "\x04\x41" + nameBytes(65), "255 names": "\x04\xff" + nameBytes(255),
	} {
		wantNoCode(t, why, poolBytes(value))
	}
	for why, value := range map[string]string{
		"false": "\x01\x00", "true": "\x01\x01", "a number": "\x02\x00\x00\x00\x00\x00\x00\x00\x09", "no text": "\x03\x00",
		"the longest text": "\x03\x20" + strings.Repeat("a", 32), "no names": "\x04\x00", "rising names": "\x04\x03\x01a\x02ab\x01b",
		"the longest name": "\x04\x01\x20" + strings.Repeat("a", 32), "the most names": "\x04\x40" + nameBytes(64),
	} {
		if !checkDecoded(t, poolBytes(value)) {
			t.Errorf("%s is not decoded", why)
		}
	}
}

func nameBytes(n int) string {
	var out strings.Builder
	for _, name := range numberedNames("n", n) {
		out.WriteString(string(rune(len(name))) + name)
	}
	return out.String()
}

func TestDecodeWrongNumbers(t *testing.T) {
	value, deny := "\x01\x00", "\x18\x00\x00"
	pool := func(high, low byte, n int) []byte {
		return []byte("PL1" + string([]byte{high, low}) + strings.Repeat(value, n) + "\x00\x00\x00\x00")
	}
	ins := func(high, low byte, n int) []byte {
		return []byte("PL1\x00\x00\x00\x00" + string([]byte{high, low}) + strings.Repeat(deny, n))
	}
	for why, b := range map[string][]byte{
		"a value too many for the limit": pool(0x0f, 0xa1, 4001), "most values that two bytes can count": pool(0xff, 0xff, 65535),
		"a value too few": pool(0, 3, 2), "a value too many": pool(0, 1, 2), "low byte first": pool(1, 0, 1),
		"an instruction too many for the limit": ins(0x4e, 0x21, 20001), "most instructions that two bytes can count": ins(0xff, 0xff, 65535),
		"an instruction too few": ins(0, 3, 2), "an instruction too many": ins(0, 1, 2), "low byte of instructions first": ins(1, 0, 1),
		"a slot too many": []byte("PL1\x00\x00\x02\x59\x00\x00"), "most slots": []byte("PL1\x00\x00\xff\xff\x00\x00"),
		"no Op": []byte("PL1\x00\x00\x00\x00\x00\x01\x00\x00\x00"), "an Op that is none": []byte("PL1\x00\x00\x00\x00\x00\x01\x1a\x00\x00"),
		"the last Op": []byte("PL1\x00\x00\x00\x00\x00\x01\xff\x00\x00"),
		"other bytes": []byte("PL2\x00\x00\x00\x00\x00\x00"), "small letters": []byte("pl1\x00\x00\x00\x00\x00\x00"),
		"no mark": []byte("\x00\x00\x00\x00\x00\x00"), "a mark alone": []byte("PL1"), "nothing": nil, "no bytes": {},
	} {
		wantNoCode(t, why, b)
	}
	for op := 1; op <= 25; op++ {
		for _, arg := range []string{"\x00\x01", "\x01\x00", "\xff\xff"} {
			b := []byte("PL1\x00\x00\x00\x00\x00\x01" + string(rune(op)) + arg)
			if got := checkDecoded(t, b); got != (mostArg(op) > 0) {
				t.Errorf("%s with an Arg: %v", insNames[op], got)
			}
		}
	}
	for why, b := range map[string][]byte{
		"most values": pool(0x0f, 0xa0, 4000), "most instructions": ins(0x4e, 0x20, 20000), "most slots": []byte("PL1\x00\x00\x02\x58\x00\x00"),
	} {
		if !checkDecoded(t, b) {
			t.Errorf("%s is not decoded", why)
		}
	}
}

// randomShape gives a code of the right shape, and now and then one that is not.
func randomShape(random *rand.Rand) impl.Code {
	c := impl.Code{Slots: random.Intn(maxStmts + 1)}
	for range random.Intn(8) {
		v := impl.Value{Kind: 1 + random.Intn(4)}
		switch v.Kind {
		case impl.TyBool:
			v.Num = int64(random.Intn(2))
		case impl.TyInt:
			v.Num = int64(random.Uint64())
		case impl.TyText:
			if random.Intn(4) > 0 {
				v.Text = randomName(random, maxName)
			}
		case impl.TySet:
			v.Names = randomSet(random, 5, 3)
		}
		c.Pool = append(c.Pool, v)
	}
	for range random.Intn(12) {
		op := 1 + random.Intn(25)
		c.Ins = append(c.Ins, impl.Ins{Op: op, Arg: random.Intn(mostArg(op) + 1)})
	}
	return c
}

func TestBytesOfManyCodes(t *testing.T) {
	random := rand.New(rand.NewSource(95))
	counts := map[bool]int{}
	for range 20000 {
		b := checkEncoded(t, randomShape(random))
		for range 3 {
			spoilt := slices.Clone(b)
			for range 1 + random.Intn(3) {
				at := random.Intn(len(spoilt))
				switch random.Intn(4) {
				case 0:
					spoilt = slices.Delete(spoilt, at, at+1)
				case 1:
					spoilt = slices.Insert(spoilt, at, byte(random.Intn(256)))
				case 2:
					spoilt[at] = byte(random.Intn(256))
				case 3:
					spoilt[at] += byte(random.Intn(3) - 1)
				}
			}
			counts[checkDecoded(t, spoilt)]++
		}
	}
	if counts[true] < 1000 || counts[false] < 1000 {
		t.Errorf("decoded and not: %v", counts)
	}
}

func TestDecodeAnyBytes(t *testing.T) {
	random := rand.New(rand.NewSource(96))
	pieces := []string{
		"\x00\x00", "\x00\x00", "\x00\x01", "\x00\x02", "\x01\x01", "\x01\x02", "\x03\x01a", "\x03\x00", "\x04\x00", "\x04\x01\x01a",
		"\x18\x00\x00", "\x01\x00\x00", "\x00", "\x01", "a", "\xff", "PL1",
	}
	decoded := 0
	for range 100000 {
		text := "PL1"[random.Intn(20)/19:]
		for range random.Intn(8) {
			text += pieces[random.Intn(len(pieces))]
		}
		if checkDecoded(t, []byte(text)) {
			decoded++
		}
	}
	if decoded < 100 {
		t.Errorf("%d were decoded", decoded)
	}
}

// Compiled codes run from their bytes as they did before.
func TestBytesOfCompiledCodes(t *testing.T) {
	random := rand.New(rand.NewSource(97))
	for range 2000 {
		g := typedRandom{random: random}
		c := impl.Compile(typedLines(g.lines(6, 5)))
		decoded, _ := impl.DecodeCode(checkEncoded(t, c))
		r := someRequest(random)
		if got, want := impl.Run(decoded, r), impl.Run(c, r); !sameTrace(got, want) {
			t.Fatalf("%s runs to %+v, from its bytes to %+v", brief(c), want, got)
		}
	}
}
