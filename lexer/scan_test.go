package lexer_test

import (
	"math/rand"
	"slices"
	"strconv"
	"strings"
	"testing"
	"unsafe"

	"concord/api"
	"concord/lexer"
)

// holdScan holds Scan against the model (P13.1), and what is promised beside (P13.2, P13.5).
func holdScan(t *testing.T, q string) {
	t.Helper()
	tokens, place := modelScan(q)
	if place < 0 {
		want(t, q, tokens[:len(tokens)-1]...)
		holdNothingLost(t, q)
	} else {
		wantFault(t, q, place)
		holdAhead(t, q)
	}
}

// holdNothingLost holds that the tokens stand one behind the other with blanks alone between, and that each of them is scanned by itself as what it is.
func holdNothingLost(t *testing.T, q string) {
	t.Helper()
	tokens, _, err := lexer.Scan(q)
	if err != nil {
		return
	}
	at := 0
	for i, token := range tokens {
		if token.At < at || token.End < token.At || token.End > len(q) || strings.Trim(q[at:token.At], blanks) != "" {
			t.Fatalf("Scan(%q): the token %d, %v, doesn't follow what ends at %d", q, i, token, at)
		}
		if last := i == len(tokens)-1; last != (token.Kind == api.LexEnd) || last != (token.End == token.At) {
			t.Fatalf("Scan(%q): the token %d of %d is %v", q, i, len(tokens), token)
		}
		at = token.End
		if token.Kind != api.LexEnd {
			want(t, q[token.At:token.End], shifted([]api.Lex{token}, -token.At)...)
		}
	}
	if at != len(q) {
		t.Fatalf("Scan(%q): the last token ends at %d", q, at)
	}
}

// holdAhead holds that the text ahead of a fault has none.
func holdAhead(t *testing.T, q string) {
	t.Helper()
	if _, i, err := lexer.Scan(q); err != nil {
		if _, at, err := lexer.Scan(q[:i]); err != nil {
			t.Fatalf("Scan(%q) has a fault at %d, and so has the text ahead of it, at %d", q, i, at)
		}
	}
}

// P13.1: the examples of the chapter.
func TestScanExamples(t *testing.T) {
	want(t, "a b", word("a", 0, 1), word("b", 2, 3))
	want(t, "")
	want(t, `+a-b:"c \" d"~3^007 @2`,
		lone(api.LexPlus, 0, 1), word("a-b", 1, 4), lone(api.LexColon, 4, 5), quoted(`c " d`, 5, 13),
		numbered(api.LexTilde, 3, 13, 15), numbered(api.LexBoost, 7, 15, 19), numbered(api.LexLeast, 2, 20, 22))
	want(t, `\AND AND and`, word("AND", 0, 4), lone(api.LexAnd, 5, 8), word("and", 9, 12))
	want(t, `A\ND`, word("AND", 0, 4))
	want(t, `a\*b*`, pattern(`a\*b*`, 0, 5))
	want(t, `\a?`, pattern(`a?`, 0, 3))
	want(t, `*`, pattern(`*`, 0, 1))
	want(t, `\*`, word(`*`, 0, 2))
	want(t, `a\ b`, word("a b", 0, 4))
	want(t, `- -x`, lone(api.LexMinus, 0, 1), lone(api.LexMinus, 2, 3), word("x", 3, 4))
	want(t, `x--`, word("x--", 0, 3))
	want(t, `^2abc`, numbered(api.LexBoost, 2, 0, 2), word("abc", 2, 5))
	want(t, `^0999999999`, numbered(api.LexBoost, 999999999, 0, 11))
	for q, place := range map[string]int{
		`a ^`: 2, `^=x`: 0, `a @`: 2, `^1000000000`: 0, `"ab`: 0, `ab\`: 0, `x "a\"`: 2, `~1000000000`: 0,
	} {
		wantFault(t, q, place)
	}
}

// P13.1: texts without a token.
func TestBlanksAlone(t *testing.T) {
	for _, q := range allTexts(4, blanks) {
		want(t, q)
	}
	want(t, strings.Repeat(blanks, 1000))
}

// loneKinds are the marks and signs that are a token by themselves.
var loneKinds = map[byte]int{
	'(': api.LexOpen, ')': api.LexClose, '[': api.LexSquare, ']': api.LexSquared, '{': api.LexCurly, '}': api.LexCurled,
	':': api.LexColon, '+': api.LexPlus, '-': api.LexMinus, '|': api.LexBar,
}

// P13.1: every byte as a text by itself.
func TestByteAlone(t *testing.T) {
	for c := range 256 {
		q := string([]byte{byte(c)})
		kind, isLone := loneKinds[byte(c)]
		switch {
		case isLone:
			want(t, q, lone(kind, 0, 1))
		case strings.Contains(blanks, q):
			want(t, q)
		case q == "~":
			want(t, q, numbered(api.LexTilde, -1, 0, 1))
		case strings.Contains("^@\"\\", q):
			wantFault(t, q, 0)
		case strings.Contains(wilds, q):
			want(t, q, pattern(q, 0, 1))
		default:
			want(t, q, word(q, 0, 1))
		}
	}
}

// P13.1: every byte behind an escape, at the beginning, in the midst and at the end of a run.
func TestByteEscaped(t *testing.T) {
	for c := range 256 {
		b := string([]byte{byte(c)})
		want(t, `\`+b, word(b, 0, 2))
		want(t, `a\`+b, word("a"+b, 0, 3))
		want(t, `\`+b+`a`, word(b+"a", 0, 3))
		want(t, ` a\`+b+`c)`, word("a"+b+"c", 1, 5), lone(api.LexClose, 5, 6))
		kept := b
		if strings.Contains(wilds+`\`, b) {
			kept = `\` + b
		}
		want(t, `*\`+b, pattern("*"+kept, 0, 3))
		want(t, `\`+b+`?`, pattern(kept+"?", 0, 3))
	}
}

// P13.1: every byte inside a run.
func TestByteInRun(t *testing.T) {
	for c := range 256 {
		b := string([]byte{byte(c)})
		q := "x" + b + "y"
		kind, isLone := loneKinds[byte(c)]
		switch {
		case b == "+" || b == "-":
			want(t, q, word(q, 0, 3))
		case isLone:
			want(t, q, word("x", 0, 1), lone(kind, 1, 2), word("y", 2, 3))
		case strings.Contains(blanks, b):
			want(t, q, word("x", 0, 1), word("y", 2, 3))
		case b == "~":
			want(t, q, word("x", 0, 1), numbered(api.LexTilde, -1, 1, 2), word("y", 2, 3))
		case strings.Contains("^@\"", b):
			wantFault(t, q, 1)
		case b == `\`:
			want(t, q, word("xy", 0, 3))
		case strings.Contains(wilds, b):
			want(t, q, pattern(q, 0, 3))
		default:
			want(t, q, word(q, 0, 3))
		}
	}
}

// P13.1: every byte between quotes, by itself and behind an escape.
func TestByteQuoted(t *testing.T) {
	for c := range 256 {
		b := string([]byte{byte(c)})
		switch b {
		case `"`:
			wantFault(t, `"`+b+`"`, 2)
		case `\`:
			wantFault(t, `"`+b+`"`, 0)
		default:
			want(t, `"`+b+`"`, quoted(b, 0, 3))
			want(t, `x"`+b+`a"y`, word("x", 0, 1), quoted(b+"a", 1, 5), word("y", 5, 6))
		}
		want(t, `"\`+b+`"`, quoted(b, 0, 4))
		want(t, `"a\`+b+`c"`, quoted("a"+b+"c", 0, 6))
	}
}

// P13.1: marks with and without blanks around them, two of them side by side too.
func TestMarks(t *testing.T) {
	for c, kind := range loneKinds {
		m := string([]byte{c})
		want(t, " "+m+"\t", lone(kind, 1, 2))
		want(t, m+"a", lone(kind, 0, 1), word("a", 1, 2))
		want(t, "a "+m+" b", word("a", 0, 1), lone(kind, 2, 3), word("b", 4, 5))
		want(t, `"a"`+m, quoted("a", 0, 3), lone(kind, 3, 4))
		want(t, `^1`+m+`~`+m, numbered(api.LexBoost, 1, 0, 2), lone(kind, 2, 3), numbered(api.LexTilde, -1, 3, 4), lone(kind, 4, 5))
		for d, second := range loneKinds {
			want(t, m+string([]byte{d}), lone(kind, 0, 1), lone(second, 1, 2))
			want(t, m+"\r\n"+string([]byte{d}), lone(kind, 0, 1), lone(second, 3, 4))
		}
	}
	want(t, "=", word("=", 0, 1))
	want(t, "+-=", lone(api.LexPlus, 0, 1), lone(api.LexMinus, 1, 2), word("=", 2, 3))
}

// numberMarks are what a number stands behind.
var numberMarks = map[string]int{"^": api.LexBoost, "^=": api.LexConst, "@": api.LexLeast, "~": api.LexTilde}

// P13.1: numbers at their edges.
func TestNumbers(t *testing.T) {
	for m, kind := range numberMarks {
		for digits, n := range map[string]int{
			"0": 0, "1": 1, "9": 9, "10": 10, "007": 7, "000": 0, "42": 42, "123456789": 123456789,
			"999999998": 999999998, "999999999": 999999999, "0999999999": 999999999, strings.Repeat("0", 500) + "999999999": 999999999,
		} {
			end := len(m) + len(digits)
			want(t, m+digits, numbered(kind, n, 0, end))
			want(t, m+digits+"a", numbered(kind, n, 0, end), word("a", end, end+1))
			want(t, m+digits+" 5", numbered(kind, n, 0, end), word("5", end+1, end+2))
			want(t, m+digits+m+digits, numbered(kind, n, 0, end), numbered(kind, n, end, 2*end))
		}
		for _, digits := range []string{
			"1000000000", "01000000000", "1000000001", "9999999999", "4294967296", "4294967303", "18446744073709551616", "18446744073709551623", "9223372036854775808",
			strings.Repeat("9", 100), "1" + strings.Repeat("0", 64), "99999999999999999999999",
		} {
			wantFault(t, "a "+m+digits+" b", 2)
		}
	}
}

// P13.1: what stands behind a mark in the place of a number.
func TestNoNumbers(t *testing.T) {
	for m, kind := range numberMarks {
		for _, rest := range []string{"", " 1", "a", "-1", "+1", "(", ":", "\\1", "\"1\"", "*", "?", "|", "\xb9", "\x00", "/", ".5", "\t"} {
			if kind != api.LexTilde {
				wantFault(t, m+rest, 0)
				wantFault(t, "b1:"+m+rest, 3)
				continue
			}
			tokens, _, err := lexer.Scan(m + rest)
			if err != nil || tokens[0] != numbered(kind, -1, 0, 1) {
				t.Errorf("Scan(%q) is %v, %v", m+rest, tokens, err)
			}
			holdScan(t, m+rest)
		}
	}
	wantFault(t, "^ =1", 0)
	wantFault(t, "^==1", 0)
	wantFault(t, "^^1", 0)
	wantFault(t, "^=^1", 0)
	wantFault(t, "@=1", 0)
	want(t, "~=1", numbered(api.LexTilde, -1, 0, 1), word("=1", 1, 3))
	want(t, "~~2", numbered(api.LexTilde, -1, 0, 1), numbered(api.LexTilde, 2, 1, 3))
	want(t, "^1=2", numbered(api.LexBoost, 1, 0, 2), word("=2", 2, 4))
	want(t, "^=1=2", numbered(api.LexConst, 1, 0, 3), word("=2", 3, 5))
	want(t, "1 1*", word("1", 0, 1), pattern("1*", 2, 4))
}

// P13.1: quoted texts.
func TestQuoted(t *testing.T) {
	want(t, `""`, quoted("", 0, 2))
	want(t, `""""`, quoted("", 0, 2), quoted("", 2, 4))
	want(t, `"a""b"`, quoted("a", 0, 3), quoted("b", 3, 6))
	want(t, `" "`, quoted(" ", 0, 3))
	want(t, `"( ) [ ] { } : + - | ^ ~ @ * ? AND"`, quoted("( ) [ ] { } : + - | ^ ~ @ * ? AND", 0, 35))
	want(t, "\"a\nb\tc\r\"", quoted("a\nb\tc\r", 0, 8))
	want(t, `"\\"`, quoted(`\`, 0, 4))
	want(t, `"\\\""`, quoted(`\"`, 0, 6))
	want(t, `"\"\""`, quoted(`""`, 0, 6))
	want(t, `"\a\*\?\ "`, quoted("a*? ", 0, 10))
	want(t, `"*"`, quoted("*", 0, 3))
	want(t, `"AND"`, quoted("AND", 0, 5))
	want(t, "\"\x00\xffé\"", quoted("\x00\xffé", 0, 6))
	want(t, `a"b"c`, word("a", 0, 1), quoted("b", 1, 4), word("c", 4, 5))
	want(t, `\"a"b"`, word(`"a`, 0, 3), quoted("b", 3, 6))
	for _, q := range []string{`"`, `"a`, `"\"`, `"\`, `"a\`, `"\\\"`, `"a b c`, `"\\\`} {
		wantFault(t, q, 0)
		wantFault(t, `"x" `+q, 4)
	}
	wantFault(t, `"""`, 2)
	wantFault(t, `"a" b"`, 5)
}

// P13.1: runs that are words of the language, and those that only look like them.
func TestReserved(t *testing.T) {
	for name, kind := range map[string]int{"AND": api.LexAnd, "OR": api.LexOr, "NOT": api.LexNot, "TO": api.LexTo} {
		n := len(name)
		want(t, name, lone(kind, 0, n))
		want(t, "("+name+")", lone(api.LexOpen, 0, 1), lone(kind, 1, n+1), lone(api.LexClose, n+1, n+2))
		want(t, "\t"+name+"\n"+name, lone(kind, 1, n+1), lone(kind, n+2, 2*n+2))
		want(t, name+`"a"`, lone(kind, 0, n), quoted("a", n, n+3))
		want(t, "+"+name+"^1", lone(api.LexPlus, 0, 1), lone(kind, 1, n+1), numbered(api.LexBoost, 1, n+1, n+3))
		for i := range n {
			q := name[:i] + `\` + name[i:]
			want(t, q, word(name, 0, n+1))
		}
		for i := 1; i < n; i++ {
			want(t, name[:i], word(name[:i], 0, i))
			want(t, name[i:], word(name[i:], 0, n-i))
		}
		for _, other := range []string{strings.ToLower(name), name[:1] + strings.ToLower(name[1:]), strings.ToLower(name[:1]) + name[1:], name + "S", name + "-", name + name, "x" + name, name + "\x00", name + "=", "1" + name} {
			want(t, other, word(other, 0, len(other)))
		}
		want(t, name+`\ `, word(name+" ", 0, n+2))
		want(t, name+"*", pattern(name+"*", 0, n+1))
		want(t, "?"+name, pattern("?"+name, 0, n+1))
		wantFault(t, name+`\`, 0)
	}
	want(t, "ANDOR", word("ANDOR", 0, 5))
	want(t, "AND OR", lone(api.LexAnd, 0, 3), lone(api.LexOr, 4, 6))
	want(t, "IN XOR", word("IN", 0, 2), word("XOR", 3, 6))
}

// P13.1: patterns, and their canonical form.
func TestPatternRuns(t *testing.T) {
	for q, text := range map[string]string{
		`*`: `*`, `?`: `?`, `**`: `**`, `a*`: `a*`, `*a`: `*a`, `a?b`: `a?b`, `\a*`: `a*`, `\**`: `\**`, `*\*`: `*\*`, `\?*`: `\?*`, `*\?`: `*\?`,
		`\\*`: `\\*`, `\\\*?`: `\\\*?`, `*\\`: `*\\`, `\\\\*`: `\\\\*`, `*\ \(\"`: `* ("`, `\A\N\D*`: `AND*`, `*+-`: `*+-`, `*=`: `*=`, `\+*`: `+*`, `\-?`: `-?`,
		"*\\\x00\\\xff": "*\x00\xff", "é?": "é?", `*\n`: `*n`,
	} {
		want(t, q, pattern(text, 0, len(q)))
	}
	for q, text := range map[string]string{
		`\*`: `*`, `\?`: `?`, `\*\?`: `*?`, `a\*b`: `a*b`, `\\\*`: `\*`, `\\`: `\`, `\\\\`: `\\`, `\+`: `+`, `\-a`: `-a`, `a+b`: `a+b`, `\a\b`: `ab`, `\\a`: `\a`,
	} {
		want(t, q, word(text, 0, len(q)))
	}
	want(t, `+*`, lone(api.LexPlus, 0, 1), pattern("*", 1, 2))
	want(t, `*:*`, pattern("*", 0, 1), lone(api.LexColon, 1, 2), pattern("*", 2, 3))
	want(t, `*"a"`, pattern("*", 0, 1), quoted("a", 1, 4))
}

// P13.1: an escape with nothing behind it.
func TestLastEscape(t *testing.T) {
	for n := range 10 {
		q := strings.Repeat(`\`, n)
		switch {
		case n == 0:
			want(t, "a "+q, word("a", 0, 1))
		case n%2 == 0:
			want(t, "a "+q, word("a", 0, 1), word(q[:n/2], 2, 2+n))
			want(t, "a*"+q, pattern("a*"+q, 0, 2+n))
			want(t, `"`+q+`"`, quoted(q[:n/2], 0, n+2))
		default:
			wantFault(t, "a "+q, 2)
			wantFault(t, "a*"+q, 0)
			wantFault(t, "AND"+q, 0)
			wantFault(t, `"`+q+`"`, 0)
		}
	}
}

// P13.1: of several faults the first one is told.
func TestFirstFault(t *testing.T) {
	for q, place := range map[string]int{
		`^ @`: 0, `a^ "b`: 1, `"a ^`: 0, `b "a ^ @ \`: 2, `@ "`: 0, `^1000000000 ^`: 0, `^1 ^1000000000 @`: 3, `x\ ^ y\`: 3,
		`~1000000000"`: 0, `a\`: 0, `(a AND "b) ^2`: 7, `"a" "b" c\`: 8, `a:b\`: 2, `+\`: 1, `^=1 ^=`: 4, `^1\`: 2, `"" \`: 3, `a@`: 1, "\n\n@": 2,
	} {
		wantFault(t, q, place)
		holdScan(t, q)
	}
}

// P13.1, P13.2, P13.5: all short texts against the model.
func TestScanAllShort(t *testing.T) {
	for _, q := range allTexts(4, " (^=~@\"\\*+1a0") {
		holdScan(t, q)
	}
	for _, q := range allTexts(7, "\"\\a ") {
		holdScan(t, q)
	}
	for _, q := range allTexts(6, "TO\\ *") {
		holdScan(t, q)
	}
}

// P13.1, P13.2, P13.5: made texts against the model.
func TestScanMade(t *testing.T) {
	dice := rand.New(rand.NewSource(131))
	for range 20000 {
		holdScan(t, madeText(dice, 12))
		holdScan(t, madeBytes(dice, 12))
	}
	for range 20 {
		holdScan(t, madeText(dice, 2000))
		holdScan(t, strings.Repeat("a*\\\" (", dice.Intn(2000)))
	}
}

// holdSideBySide holds that two texts with a space between are scanned as each of them is.
func holdSideBySide(t *testing.T, p, q string) {
	t.Helper()
	left, _, err := lexer.Scan(p)
	if err != nil {
		return
	}
	right, _, err := lexer.Scan(q)
	if err != nil {
		return
	}
	both := slices.Concat(left[:len(left)-1], shifted(right[:len(right)-1], len(p)+1))
	want(t, p+" "+q, both...)
}

// P13.4
func TestSideBySide(t *testing.T) {
	short := append(allTexts(2, " (^=~@\"\\*+-1a"), pieces...)
	short = append(short, "^=1", "~12", `"a\" b"`, `\ `, `a\ `, "AND", "x AND", "  a  ")
	for _, p := range short {
		for _, q := range short {
			holdSideBySide(t, p, q)
		}
	}
	dice := rand.New(rand.NewSource(134))
	for range 20000 {
		holdSideBySide(t, madeText(dice, 6), madeText(dice, 6))
	}
}

// P13.5: behind a text without a fault, the fault is where the text behind has it.
func TestFaultBehind(t *testing.T) {
	faults := []string{"^", "^=", "@", `"`, `"a`, `\`, `a\`, `"\"`, "~1000000000", "^x"}
	dice := rand.New(rand.NewSource(135))
	for range 5000 {
		p := madeText(dice, 6)
		if _, _, err := lexer.Scan(p); err != nil {
			continue
		}
		for _, q := range faults {
			wantFault(t, p+" "+q, len(p)+1)
			holdAhead(t, p+" "+q)
		}
	}
}

// Rule 5: the tokens share no memory with the text, with each other, or with an earlier answer.
func TestScanSharesNothing(t *testing.T) {
	const text = `abc d\ ef g*h "quoted" "esc\"aped" TO ^12`
	b := []byte(text)
	lent := unsafe.String(&b[0], len(b))
	first, _, _ := lexer.Scan(lent)
	second, _, _ := lexer.Scan(lent)
	kept := slices.Clone(second)
	for i := range b {
		b[i] = '#'
	}
	tokens, _ := modelScan(text)
	if !slices.Equal(first, tokens) || !slices.Equal(second, tokens) {
		t.Errorf("with the text overwritten the tokens are %v and %v", first, second)
	}
	spare := first[:cap(first)]
	for i := range spare {
		spare[i] = api.Lex{Text: "#"}
	}
	if !slices.Equal(second, kept) {
		t.Errorf("with the first answer overwritten the second one is %v", second)
	}
	if again, _, _ := lexer.Scan(text); !slices.Equal(again, kept) {
		t.Errorf("asked again, the tokens are %v", again)
	}
}

// Rule 5: no two texts of an answer lie in the same bytes, even where they are alike.
func TestTextsShareNothing(t *testing.T) {
	tokens, _, err := lexer.Scan(`same same "same" same* same* sa\me`)
	if err != nil {
		t.Fatal(err)
	}
	seen := map[*byte]int{}
	for i, token := range tokens {
		if token.Text == "" {
			continue
		}
		p := unsafe.StringData(token.Text)
		if j, ok := seen[p]; ok {
			t.Errorf("the texts of the tokens %d and %d lie in the same bytes", i, j)
		}
		seen[p] = i
	}
}

// Rule 7: an answer hangs on the text alone, whatever was asked before.
func TestScanAskedAgain(t *testing.T) {
	dice := rand.New(rand.NewSource(137))
	for i := range 500 {
		q := madeText(dice, 8)
		tokens, at, err := lexer.Scan(q)
		lexer.Scan(madeText(dice, 8) + strconv.Itoa(i))
		again, atAgain, errAgain := lexer.Scan(q)
		if !slices.Equal(tokens, again) || at != atAgain || err != errAgain {
			t.Fatalf("Scan(%q) is %v, %d, %v, and then %v, %d, %v", q, tokens, at, err, again, atAgain, errAgain)
		}
	}
}

// FuzzScan holds Scan against its model.
func FuzzScan(f *testing.F) {
	for _, p := range pieces {
		f.Add(p + " a" + p)
	}
	f.Fuzz(holdScan)
}

// FuzzSideBySide holds two texts with a space between against each of them.
func FuzzSideBySide(f *testing.F) {
	f.Add("a^2", `"b c"~1`)
	f.Add(`\ `, "AND")
	f.Fuzz(holdSideBySide)
}
