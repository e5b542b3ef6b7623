package auto_test

import (
	"math"
	"math/rand"
	"strings"
	"testing"

	"concord/api"
	"concord/auto"
)

// holdText holds Accepts and Alive of one text against the model.
func holdText(t testing.TB, x told, a *auto.Auto, s string) {
	t.Helper()
	if got, want := a.Accepts(s), x.accepts(s); got != want {
		t.Fatalf("%v: Accepts(%q) is %v", x, s, got)
	}
	if got, want := a.Alive(s), x.alive(s); got != want {
		t.Fatalf("%v: Alive(%q) is %v", x, s, got)
	}
}

// P7.1, P7.2: the chapter's examples, and their kin.
func TestExamples(t *testing.T) {
	rows := []struct {
		x        told
		yes, no  string // texts, with spaces between
		dead     string
		hasEmpty bool
	}{
		{exactly("ab"), "ab", "a b abc ba aab", "b abc aa", false},
		{exactly(""), "", "a \x00", "a \x00", true},
		{heading("ab"), "ab abc ab\x00 abab", "a b ba aab", "b aa ba", false},
		{heading(""), "a \x00 \xff abc", "", "", true},
		{wildly("a*"), "a ab a* aa", "b ba", "b ba", false},
		{wildly("a\\*?"), "a*x a**", "axx a* a*xx a\\*x", "ax a*xx b", false},
		{wildly(""), "", "a *", "a", true},
		{wildly("**"), "a ab \xff", "", "", true},
		{wildly("?"), "a * ? \\ \x00 \xff", "aa é", "aa é", false},
		{wildly("é"), "é", "e \xc3 \xa9", "e \xa9", false},
		{wildly("ab*cd"), "abcd abxcd abcdcd", "abxx abc abcde", "ac b", false},
		{wildly("\\\\"), "\\", "\\\\ a", "\\\\ a", false},
		{nearly("ab", 1), "ab a b abc xab xb axb ax aab abb", "ba abcd xy xyab", "xy abcd xyab", false},
		{nearly("ab", 0), "ab", "a b abc xb", "b abc xb", false},
		{nearly("ab", 2), "ab a b ba abcd xabx xy", "xyz abxyz", "xyz abxyz", true},
		{nearly("", 0), "", "a", "a", true},
		{nearly("", 2), "a ab xy", "abc", "abc", true},
		{nearly("é", 1), "é e\xa9 \xc3 \xa9 \xc3\xc3", "e\xaa", "xy", false},
		{between(in("b"), out("d")), "b bzz c", "a d da", "a d da e", false},
		{between(out("b"), in("d")), "bzz c d b\x00", "a b da d\x00", "a da d\x00 e", false},
		{between(in("b"), in("b")), "b", "a c b\x00 ba", "a c b\x00 ba", false},
		{between(out("b"), in("b")), "", "a b c b\x00", "a b c", false},
		{between(in("b"), out("b")), "", "a b c b\x00", "a b c", false},
		{between(out("b"), in("b\x00")), "b\x00", "b a b\x00\x00 b\x01", "a c b\x01 b\x00\x00", false},
		{between(out("b"), out("b\x00")), "", "b b\x00 a", "b b\x00", false},
		{between(in("d"), in("b")), "", "a b c d e", "a b c d e", false},
		{between(open(true, "b"), open(true, "a")), "a b c \xff", "", "", true},
		{between(open(false, "x"), out("b")), "a azz \x00", "b ba c", "b ba c", true},
		{between(in("b"), open(false, "a")), "b c \xff", "a ab", "a ab", false},
		{between(out(""), open(false, "")), "a \x00 \xff", "", "", false},
		{between(open(false, ""), in("")), "", "a \x00", "a \x00", true},
		{between(open(false, ""), out("")), "", "a \x00", "a \x00", false},
		{between(in("\xff"), open(false, "")), "\xff \xff\x00 \xff\xff", "\xfe a", "\xfe a", false},
		{between(in("ab"), in("abc")), "ab ab\x00 aba abc", "a abc\x00 abd ac", "aa abc\x00 abd ac", false},
		{between(in("abc"), in("ab")), "", "a ab abc", "a ab abc", false},
	}
	for _, row := range rows {
		a := row.x.made(t)
		for _, s := range strings.Fields(row.yes) {
			if !a.Accepts(s) || !a.Alive(s) {
				t.Errorf("%v refuses %q, or has it dead", row.x, s)
			}
			holdText(t, row.x, a, s)
		}
		for _, s := range strings.Fields(row.no) {
			if a.Accepts(s) {
				t.Errorf("%v accepts %q", row.x, s)
			}
			holdText(t, row.x, a, s)
		}
		for _, s := range strings.Fields(row.dead) {
			if a.Alive(s) || a.Accepts(s) {
				t.Errorf("%v has %q alive", row.x, s)
			}
			holdText(t, row.x, a, s)
		}
		if a.Accepts("") != row.hasEmpty {
			t.Errorf("%v accepts the empty text, or should", row.x)
		}
	}
}

// P7.1, P7.2: every automaton over every short text, and over texts about it.
func TestShortTexts(t *testing.T) {
	texts := append(allTexts(4, "ab\x00\xff"), allTexts(3, "abc*?\\\x01\xfe\xc3\xa9")...)
	for _, x := range allTold() {
		a := x.made(t)
		for _, s := range texts {
			holdText(t, x, a, s)
		}
		for _, s := range x.near() {
			holdText(t, x, a, s)
		}
	}
}

// P7.2: Alive(s) is Accepts of s with some short text behind it; nothing here needs a longer one.
func TestAliveByWhatFollows(t *testing.T) {
	const alphabet = "\x00\x01ab\xff"
	behind := allTexts(3, alphabet)
	var list []told
	for _, word := range allTexts(3, "ab") {
		list = append(list, exactly(word), heading(word), nearly(word, 0), nearly(word, 1), nearly(word, 2))
	}
	for _, pattern := range allTexts(3, "ab*?") {
		list = append(list, wildly(pattern))
	}
	for _, lo := range bounds() {
		for _, hi := range bounds() {
			if len(lo.Text) <= 2 && len(hi.Text) <= 2 {
				list = append(list, between(lo, hi))
			}
		}
	}
	for _, x := range list {
		a := x.made(t)
		for _, s := range allTexts(3, alphabet) {
			some := false
			for _, b := range behind {
				some = some || a.Accepts(s+b)
			}
			if a.Alive(s) != some {
				t.Fatalf("%v: Alive(%q) is %v", x, s, !some)
			}
		}
	}
}

// P7.2: a text that is dead stays so, one that is accepted is alive, and so are its beginnings.
func TestDeadStaysDead(t *testing.T) {
	dice := rand.New(rand.NewSource(72))
	for range 4000 {
		x := madeTold(dice, 6, "ab\x00")
		a := x.made(t)
		s := madeText(dice, 10, "ab\x00")
		dead := !a.Alive("")
		for n := range len(s) + 1 {
			alive := a.Alive(s[:n])
			if dead && alive {
				t.Fatalf("%v: %q is alive, and less of it isn't", x, s[:n])
			}
			dead = !alive
			if a.Accepts(s[:n]) && dead {
				t.Fatalf("%v: %q is accepted and dead", x, s[:n])
			}
		}
	}
}

// P7.2: an automaton that accepts nothing has nothing alive.
func TestNothingAlive(t *testing.T) {
	empty := 0
	for _, lo := range bounds() {
		for _, hi := range bounds() {
			x := between(lo, hi)
			a := x.made(t)
			if a.Alive("") {
				continue
			}
			empty++
			for _, s := range append(x.near(), allTexts(3, "ab\x00\xff")...) {
				if a.Alive(s) || a.Accepts(s) {
					t.Fatalf("%v: %q is alive, and the empty text isn't", x, s)
				}
			}
		}
	}
	if empty < 100 {
		t.Errorf("only %d spans accept nothing", empty)
	}
}

// P7.1, P7.2: longer words and texts, out of few bytes and out of all.
func TestMadeTexts(t *testing.T) {
	dice := rand.New(rand.NewSource(71))
	var every strings.Builder
	for b := range 256 {
		every.WriteByte(byte(b))
	}
	accepted := map[int]int{}
	for _, alphabet := range []string{"ab", "a\x00\xff", "abc*?\\", every.String()} {
		for range 3000 {
			x := madeTold(dice, 12, alphabet)
			a := x.made(t)
			for range 6 {
				s := edited(dice, strings.ReplaceAll(x.text, "\\", ""), dice.Intn(4), alphabet)
				if x.kind == isSpan && dice.Intn(2) == 0 {
					s = edited(dice, x.lo.Text, dice.Intn(3), alphabet)
				}
				s = strings.ReplaceAll(s, "*", madeText(dice, 3, alphabet))
				holdText(t, x, a, s)
				if a.Accepts(s) {
					accepted[x.kind]++
				}
			}
		}
	}
	for kind := isExact; kind <= isSpan; kind++ {
		if accepted[kind] < 100 {
			t.Errorf("of the kind %d only %d texts were accepted", kind, accepted[kind])
		}
	}
}

// P7.1: texts that are no pattern, and numbers of edits that may not be.
func TestErrors(t *testing.T) {
	for _, pattern := range []string{"\\", "a\\", "*\\", "\\\\\\", "a\\\\\\", "\\*\\", strings.Repeat("\\", 1001), strings.Repeat("a", 5000) + "\\"} {
		if a, err := auto.Wild(pattern); a != nil || err != api.ErrPattern {
			t.Errorf("Wild(%.20q) answers %v and %v", pattern, a, err)
		}
	}
	for _, pattern := range []string{"\\\\", "\\a", "\\*", "a\\\\", strings.Repeat("\\", 1000)} {
		if a, err := auto.Wild(pattern); a == nil || err != nil {
			t.Errorf("Wild(%.20q) answers %v and %v", pattern, a, err)
		}
	}
	for _, edits := range []int{math.MinInt, -1 << 32, -2, -1, 3, 4, 256, 257, 258, 1 << 32, 1<<32 + 1, math.MaxInt} {
		for _, word := range []string{"", "ab"} {
			if a, err := auto.Fuzzy(word, edits); a != nil || err != api.ErrRange {
				t.Errorf("Fuzzy(%q, %d) answers %v and %v", word, edits, a, err)
			}
		}
	}
	for edits := range 3 {
		if a, err := auto.Fuzzy("ab", edits); a == nil || err != nil {
			t.Errorf("Fuzzy(%q, %d) answers %v and %v", "ab", edits, a, err)
		}
	}
}

// P7.1, P7.3: an automaton doesn't see its texts written over.
func TestKeepsCopies(t *testing.T) {
	for _, x := range allTold() {
		y := x
		var memory [3][]byte
		y.text, memory[0] = lent(x.text)
		y.lo.Text, memory[1] = lent(x.lo.Text)
		y.hi.Text, memory[2] = lent(x.hi.Text)
		a := y.made(t)
		for _, b := range memory {
			wipe(b)
		}
		for _, s := range x.near() {
			holdText(t, x, a, s)
		}
		got, err := a.Table(1024)
		want, _ := x.made(t).Table(1024)
		if err != nil || !sameTable(got, want) {
			t.Fatalf("%v: the table sees a text written over", x)
		}
	}
}

// P7.1, P7.2: long words, heads, patterns and texts.
func TestLong(t *testing.T) {
	const n = 100000
	long := strings.Repeat("ab", n/2)
	off := func(at int) string { return long[:at] + "x" + long[at+1:] }
	rows := []struct {
		x   told
		s   string
		yes bool
		ok  bool // alive
	}{
		{exactly(long), long, true, true},
		{exactly(long), long[:n-1], false, true},
		{exactly(long), long + "a", false, false},
		{exactly(long), off(n - 1), false, false},
		{heading(long), long + long, true, true},
		{heading(long), long[:n-1], false, true},
		{heading(long), off(n-1) + long, false, false},
		{heading(""), long, true, true},
		{wildly(long), long, true, true},
		{wildly(long), off(n / 2), false, false},
		{wildly(long + "*"), long + long, true, true},
		{wildly("*" + long[:100]), long, true, true},
		{wildly("*" + long[:100]), off(n - 1), false, true},
		{wildly(strings.Repeat("?", n)), long, true, true},
		{wildly(strings.Repeat("?", n)), long + "a", false, false},
		{wildly(strings.Repeat("*", n)), long, true, true},
		{wildly(strings.Repeat("*a", 100) + "*c"), long, false, true},
		{wildly(strings.Repeat("*b*a", 50) + "*"), long, true, true},
		{nearly(long, 2), off(7), true, true},
		{nearly(long, 2), long[2:], true, true},
		{nearly(long, 2), long[3:], false, true},
		{nearly(long, 2), "xyz" + long, false, false},
		{nearly(long, 2), "xy" + long[:n/2], false, true},
		{nearly(long, 2), long[3:] + "xy", false, false},
		{nearly(long, 2), long + "xy", true, true},
		{nearly(long, 2), long + "xyz", false, false},
		{nearly(long, 1), off(7)[1:], false, false},
		{nearly(long, 0), long, true, true},
		{nearly(long, 0), off(n - 1), false, false},
		{between(in(long), in(long)), long, true, true},
		{between(in(long), out(long+"\x00")), long, true, true},
		{between(out(long), in(long)), long, false, false},
		{between(out(long), in(long+"\x00")), long, false, true},
		{between(in(long), open(false, "")), off(n - 1), true, true},
		{between(open(false, ""), in(long)), off(n - 1), false, false},
	}
	for i, row := range rows {
		a := row.x.made(t)
		if a.Accepts(row.s) != row.yes || a.Alive(row.s) != row.ok {
			t.Errorf("row %d: Accepts %v, Alive %v", i, a.Accepts(row.s), a.Alive(row.s))
		}
	}
}

// P7.1: asking an automaton doesn't change it.
func TestAskedAgain(t *testing.T) {
	dice := rand.New(rand.NewSource(73))
	for _, x := range allTold() {
		a := x.made(t)
		texts := x.near()
		for range 40 {
			s := texts[dice.Intn(len(texts))]
			holdText(t, x, a, s)
			if dice.Intn(20) == 0 {
				a.Table(dice.Intn(20))
			}
		}
	}
}

func FuzzAuto(f *testing.F) {
	for i, x := range allTold() {
		if i%7 == 0 {
			f.Add(byte(x.kind), x.text+x.lo.Text, x.hi.Text, byte(x.edits), "ab")
		}
	}
	f.Fuzz(func(t *testing.T, kind byte, text, other string, flags byte, s string) {
		if len(text) > 20 || len(other) > 20 || len(s) > 20 {
			return
		}
		x := told{kind: int(kind % 5)}
		switch x.kind {
		case isSpan:
			x.lo = api.Bound{Open: flags&12 == 12, In: flags&1 > 0, Text: text}
			x.hi = api.Bound{Open: flags&48 == 48, In: flags&2 > 0, Text: other}
		case isFuzzy:
			x.text, x.edits = text, int(flags%3)
		default:
			x.text = text
		}
		if x.kind == isWild && (!auto.Good(text) || strings.Count(text, "*") > 5) {
			return
		}
		a := x.made(t)
		for n := range len(s) + 1 {
			holdText(t, x, a, s[:n])
		}
		holdTable(t, x)
	})
}
