package isa_test

import (
	"bytes"
	"encoding/hex"
	"math"
	"slices"
	"strings"
	"testing"

	"concord/api"
	"concord/isa"
)

// holdEncode holds Encode of instructions against the model, and Decode of the bytes against the instructions; it tells whether they have bytes.
func holdEncode(t testing.TB, list []api.Instr) bool {
	t.Helper()
	b, err := isa.Encode(list)
	want, ok := modelEncode(list)
	if !ok {
		if err != api.ErrCode || len(b) != 0 {
			t.Fatalf("Encode(%s) is % .200x and %v", brief(list), b, err)
		}
		return false
	}
	if err != nil || !bytes.Equal(b, want) {
		t.Fatalf("Encode(%s) is % .200x and %v, not % .200x", brief(list), b, err, want)
	}
	if back, err := isa.Decode(b); err != nil || !slices.Equal(back, list) {
		t.Fatalf("Decode of Encode(%s) is %s and %v", brief(list), brief(back), err)
	}
	return true
}

// holdDecode holds Decode of bytes against the model, and Encode of what it answers against the bytes; it tells whether they are taken.
func holdDecode(t testing.TB, b []byte) bool {
	t.Helper()
	list, err := isa.Decode(b)
	want, ok := modelDecode(b)
	if !ok {
		if err != api.ErrCode || len(list) != 0 {
			t.Fatalf("Decode(% .200x) is %s and %v", b, brief(list), err)
		}
		return false
	}
	if err != nil || !slices.Equal(list, want) {
		t.Fatalf("Decode(% .200x) is %s and %v, not %s", b, brief(list), err, brief(want))
	}
	if back, err := isa.Encode(list); err != nil || !bytes.Equal(back, b) {
		t.Fatalf("Encode of Decode(% .200x) is % .200x and %v", b, back, err)
	}
	return true
}

func fromHex(t testing.TB, text string) []byte {
	t.Helper()
	b, err := hex.DecodeString(strings.ReplaceAll(text, " ", ""))
	if err != nil {
		t.Fatal(err)
	}
	return b
}

// P20.2: written out, there and back.
func TestBytes(t *testing.T) {
	const most = "ff ff ff ff ff ff ff ff ff 01"
	for text, list := range map[string][]api.Instr{
		"":                         nil,
		"02 0b 0c ac 02 00":        {{Op: api.OpAll}, {Op: api.OpNot}, {Op: api.OpScale, A: 300}, {Op: api.OpEnd}},
		"00":                       {{Op: api.OpEnd}},
		"00 00":                    {{Op: api.OpEnd}, {Op: api.OpEnd}},
		"01 06 07 08 09 0a":        {{Op: api.OpNone}, {Op: api.OpAnd}, {Op: api.OpOr}, {Op: api.OpMax}, {Op: api.OpOpt}, {Op: api.OpExcept}},
		"03 00":                    {{Op: api.OpHas}},
		"03 01 0d 7f":              {{Op: api.OpHas, A: 1}, {Op: api.OpFix, A: 127}},
		"0f 80 01 10 80 80 01":     {{Op: api.OpMiss, A: 128}, {Op: api.OpHit, A: 16384}},
		"04 00 00":                 {{Op: api.OpTerm}},
		"05 01 00 0e 00 01":        {{Op: api.OpPhrase, A: 1}, {Op: api.OpLeast, B: 1}},
		"04 7f 80 01":              {{Op: api.OpTerm, A: 127, B: 128}},
		"04 80 01 7f":              {{Op: api.OpTerm, A: 128, B: 127}},
		"0c " + most + " 00":       {{Op: api.OpScale, A: math.MaxUint64}, {Op: api.OpEnd}},
		"0e " + most + " " + most:  {{Op: api.OpLeast, A: math.MaxUint64, B: math.MaxUint64}},
		"10 8080808080808080 8001": {{Op: api.OpHit, A: 1 << 63}},
	} {
		b := fromHex(t, text)
		if got, err := isa.Encode(list); err != nil || !bytes.Equal(got, b) {
			t.Errorf("Encode(%v) is % x and %v, not %s", list, got, err, text)
		}
		if got, err := isa.Decode(b); err != nil || !slices.Equal(got, list) {
			t.Errorf("Decode(%s) is %v and %v, not %v", text, got, err, list)
		}
	}
}

// P20.2: every operation with operands at the edges.
func TestEncodeAtTheEdges(t *testing.T) {
	for op, row := range table {
		for _, a := range edges {
			for _, b := range edges {
				list := []api.Instr{{Op: op, A: a, B: b}}
				want := (row.args >= 1 || a == 0) && (row.args >= 2 || b == 0)
				if holdEncode(t, list) != want {
					t.Errorf("whether %v has bytes isn't %v", list, want)
				}
				holdEncode(t, append(list, api.Instr{Op: op}))
			}
		}
	}
}

// P20.2: an instruction that has no bytes, first, last, in the midst and alone.
func TestEncodeRefuses(t *testing.T) {
	var bad []api.Instr
	for _, op := range outside() {
		bad = append(bad, api.Instr{Op: op}, api.Instr{Op: op, A: 1, B: 1})
	}
	for op, row := range table {
		for _, v := range edges[1:] {
			if row.args < 1 {
				bad = append(bad, api.Instr{Op: op, A: v}, api.Instr{Op: op, A: v, B: v})
			}
			if row.args < 2 {
				bad = append(bad, api.Instr{Op: op, B: v}, api.Instr{Op: op, A: 5, B: v})
			}
		}
	}
	good := []api.Instr{{Op: api.OpAll}, {Op: api.OpTerm, A: 1, B: 300}, {Op: api.OpEnd}}
	for _, in := range bad {
		for at := range len(good) + 1 {
			list := slices.Insert(slices.Clone(good), at, in)
			if b, err := isa.Encode(list); err != api.ErrCode || len(b) != 0 {
				t.Errorf("Encode(%v) is % x and %v", list, b, err)
			}
		}
		if b, err := isa.Encode([]api.Instr{in}); err != api.ErrCode || len(b) != 0 {
			t.Errorf("Encode of %v is % x and %v", in, b, err)
		}
	}
}

// P20.2: ErrCode, and no instruction beside it.
func TestDecodeRefuses(t *testing.T) {
	bad := []string{
		"0c", "11", "03 80 00", "04", "04 01", "04 01 80", "04 80", "05 00", "0e 00", "02 0c", "02 00 11", "11 00", "ff", "80", "80 00", "12", "20",
		"03 81 00", "03 ff 00", "04 80 00 01", "04 01 80 00", "03 80 80 00", "03 80 80 80 80 80 80 80 80 80 00", "04 00 80 80 80 80 80 80 80 80 80 00",
		"03 80 80 80 80 80 80 80 80 80 02", "03 ff ff ff ff ff ff ff ff ff 02", "03 ff ff ff ff ff ff ff ff ff 7f", "03 ff ff ff ff ff ff ff ff ff 81 00", "03 80 80 80 80 80 80 80 80 80 80 01", "04 00 ff ff ff ff ff ff ff ff ff 03", "03 ff ff ff ff ff ff ff ff ff ff",
	}
	for _, text := range bad {
		for _, ahead := range []string{"", "02", "04 01 02", "00"} {
			b := fromHex(t, ahead+text)
			if list, err := isa.Decode(b); err != api.ErrCode || len(list) != 0 {
				t.Errorf("Decode(% x) is %v and %v", b, list, err)
			}
			for _, behind := range []string{"", "00", "01", "11", "7f", "ff"} {
				holdDecode(t, fromHex(t, ahead+text+behind))
			}
		}
	}
}

// P20.2: every row of up to two bytes, and of three that begin as an instruction may.
func TestDecodeShortBytes(t *testing.T) {
	if !holdDecode(t, nil) || !holdDecode(t, []byte{}) {
		t.Error("no bytes are refused")
	}
	taken := 0
	hold := func(b ...byte) {
		if holdDecode(t, b) {
			taken++
		}
	}
	for a := range 256 {
		hold(byte(a))
		for b := range 256 {
			hold(byte(a), byte(b))
			for _, c := range []byte{0, 1, 2, 3, 4, 16, 17, 127, 128, 129, 255} {
				hold(byte(a), byte(b), c)
			}
		}
	}
	for number := range 12 * 12 * 12 * 12 {
		few := []byte{0, 2, 3, 4, 12, 14, 16, 17, 1, 127, 128, 255}
		hold(few[number%12], few[number/12%12], few[number/144%12], few[number/1728])
	}
	if taken == 0 {
		t.Error("none of the short bytes is taken")
	}
}

// P20.2: bytes of drawn instructions, cut off at every place, and with a byte changed, left out or put in.
func TestDecodeSpoilt(t *testing.T) {
	m := newMaker(202)
	for range 300 {
		list := m.instructions(5)
		b := mustEncode(list)
		if !holdEncode(t, list) || !holdDecode(t, b) {
			t.Fatalf("%v is refused", list)
		}
		for i := range b {
			holdDecode(t, b[:i])
			holdDecode(t, b[i:])
			holdDecode(t, slices.Delete(bytes.Clone(b), i, i+1))
			for _, v := range []byte{0, 1, 3, 4, 16, 17, 127, 128, 255, b[i] + 1, b[i] ^ 128} {
				other := bytes.Clone(b)
				other[i] = v
				holdDecode(t, other)
				holdDecode(t, slices.Insert(bytes.Clone(b), i, v))
			}
		}
		holdDecode(t, append(bytes.Clone(b), 17))
		holdDecode(t, append(bytes.Clone(b), b...))
	}
}

// P20.2: an operand is cut off at every place.
func TestDecodeCutOff(t *testing.T) {
	for op, row := range table {
		in := api.Instr{Op: op}
		for _, to := range []*uint64{&in.A, &in.B}[:row.args] {
			*to = math.MaxUint64
		}
		b := mustEncode([]api.Instr{in})
		for i := 1; i < len(b); i++ {
			if list, err := isa.Decode(b[:i]); err != api.ErrCode || len(list) != 0 {
				t.Errorf("Decode(% x) is %v and %v", b[:i], list, err)
			}
		}
		if !holdDecode(t, b) {
			t.Errorf("Decode(% x) is refused", b)
		}
	}
}

// P20.2: very many instructions.
func TestManyInstructions(t *testing.T) {
	m := newMaker(203)
	var list []api.Instr
	for range 1 << 17 {
		list = append(list, m.instruction())
	}
	if !holdEncode(t, list) || !holdDecode(t, mustEncode(list)) {
		t.Error("many instructions are refused")
	}
	b := append(mustEncode(list), byte(api.OpHas))
	if list, err := isa.Decode(b); err != api.ErrCode || len(list) != 0 {
		t.Errorf("many instructions without the last operand are %d and %v", len(list), err)
	}
	list[len(list)-1] = api.Instr{Op: api.OpAll, A: 1}
	if b, err := isa.Encode(list); err != api.ErrCode || len(b) != 0 {
		t.Errorf("many instructions with an operand too many are %d bytes and %v", len(b), err)
	}
}

// FuzzDecode holds Decode against its model, and Encode of what it answers.
func FuzzDecode(f *testing.F) {
	m := newMaker(204)
	for range 20 {
		f.Add(mustEncode(m.instructions(5)))
	}
	f.Add([]byte{3, 0x80, 0})
	f.Fuzz(func(t *testing.T, b []byte) {
		holdDecode(t, b)
		holdText(t, api.Prog{Code: b})
	})
}
