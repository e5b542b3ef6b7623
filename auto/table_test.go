package auto_test

import (
	"fmt"
	"math"
	"math/rand"
	"slices"
	"strings"
	"testing"

	"concord/api"
)

func sameTable(a, b api.Table) bool {
	return a.Start == b.Start && slices.Equal(a.Accept, b.Accept) && slices.Equal(a.Next, b.Next)
}

// goneThrough is whether the table accepts s.
func goneThrough(x api.Table, s string) bool {
	at := x.Start
	for i := range len(s) {
		at = x.Next[256*at+int(s[i])]
	}
	return x.Accept[at]
}

// holdTable holds Table at each most against the model; it answers the table.
func holdTable(t testing.TB, x told) api.Table {
	t.Helper()
	a := x.made(t)
	want, count := x.table()
	for _, most := range []int{math.MinInt, -1 << 32, -2, 1024, 1025, 1 << 31, 1 << 32, 1<<32 + 1, math.MaxInt} {
		holdTableAt(t, x, most, want, count)
	}
	for most := -1; most <= count+2; most++ {
		holdTableAt(t, x, most, want, count)
	}
	got, err := a.Table(1024)
	if count <= 1024 {
		if err != nil {
			t.Fatalf("%v: Table answers %v", x, err)
		}
		holdForm(t, x.String(), got)
	}
	return got
}

func holdTableAt(t testing.TB, x told, most int, want api.Table, count int) {
	t.Helper()
	got, err := x.made(t).Table(most)
	if count > min(most, 1024) {
		if err != api.ErrStates || got.Start != 0 || len(got.Accept) > 0 || len(got.Next) > 0 {
			t.Fatalf("%v: Table(%d) with %d descriptions answers %d states and %v", x, most, count, len(got.Accept), err)
		}
		return
	}
	if err != nil {
		t.Fatalf("%v: Table(%d) with %d descriptions answers %v", x, most, count, err)
	}
	if !sameTable(got, want) {
		t.Fatalf("%v: Table(%d) has %d states, not these %d", x, most, len(got.Accept), len(want.Accept))
	}
}

// holdForm holds a table against what the chapter asks of its form: complete, numbered as its states are met, and with no two states that could be one.
func holdForm(t testing.TB, name string, x api.Table) {
	t.Helper()
	n := len(x.Accept)
	if x.Start != 0 || n == 0 || len(x.Next) != 256*n {
		t.Fatalf("%s: Start %d, %d states, %d in Next", name, x.Start, n, len(x.Next))
	}
	met := 1
	for at, to := range x.Next {
		if to < 0 || to >= n {
			t.Fatalf("%s: Next[%d] is %d of %d", name, at, to, n)
		}
		if at/256 >= met || to > met {
			t.Fatalf("%s: the states aren't numbered as they are met", name)
		}
		met = max(met, to+1)
	}
	if met != n {
		t.Fatalf("%s: only %d of %d states are reached", name, met, n)
	}
	var rows [][256]int
	for s := range n {
		rows = append(rows, [256]int(x.Next[256*s:256*s+256]))
	}
	class := modelClasses(rows, x.Accept)
	slices.Sort(class)
	if len(slices.Compact(class)) != n {
		t.Fatalf("%s: of %d states some could be one", name, n)
	}
}

// P7.3: the chapter's examples.
func TestTableExamples(t *testing.T) {
	for _, x := range []told{wildly("a*"), heading("a")} {
		table := holdTable(t, x)
		if len(table.Accept) != 3 || !slices.Equal(table.Accept, []bool{false, false, true}) {
			t.Fatalf("%v: %v", x, table.Accept)
		}
		for b := range 256 {
			first := 1
			if b == 'a' {
				first = 2
			}
			if table.Next[b] != first || table.Next[256+b] != 1 || table.Next[512+b] != 2 {
				t.Fatalf("%v: at the byte %d", x, b)
			}
		}
		if _, err := x.made(t).Table(2); err != api.ErrStates {
			t.Errorf("%v: Table(2) answers %v", x, err)
		}
	}
	every := wildly("**").made(t)
	if _, err := every.Table(1); err != api.ErrStates {
		t.Error("every text in one state:", err)
	}
	if x, err := every.Table(2); err != nil || len(x.Accept) != 1 || !x.Accept[0] {
		t.Error("every text:", err)
	}
	if x, err := between(out("b"), in("b")).made(t).Table(1); err != nil || len(x.Accept) != 1 || x.Accept[0] {
		t.Error("no text:", err)
	}
	empty := holdTable(t, exactly(""))
	if !slices.Equal(empty.Accept, []bool{true, false}) || slices.Min(empty.Next) != 1 {
		t.Error("the empty text alone:", empty.Accept)
	}
}

// P7.3: the number of descriptions of each kind, counted by hand.
func TestDescriptions(t *testing.T) {
	for _, row := range []struct {
		x      told
		count  int
		states int
	}{
		{exactly(""), 2, 2},
		{exactly("abc"), 5, 5},
		{heading(""), 1, 1},
		{heading("abc"), 5, 5},
		{wildly(""), 2, 2},
		{wildly("*"), 2, 1},
		{wildly("***"), 2, 1},
		{wildly("a"), 3, 3},
		{wildly("a*"), 4, 3},
		{wildly("?*"), 3, 2},
		{wildly("*?"), 2, 2},
		{wildly("*a"), 3, 2},
		{wildly("*a*"), 4, 2},
		{nearly("", 0), 2, 2},
		{nearly("", 1), 3, 3},
		{nearly("", 2), 4, 4},
		{nearly("a", 0), 3, 3},
		{nearly("a", 1), 5, 5},
		{between(open(false, ""), open(false, "")), 1, 1},
		{between(out("b"), in("b")), 1, 1},
		{between(in("a"), open(false, "")), 4, 3},
		{between(in("a"), in("a")), 3, 3},
		{between(in(""), open(false, "")), 2, 1},
		{between(out(""), open(false, "")), 2, 2},
		{between(open(false, ""), in("")), 2, 2},
		{between(open(false, ""), out("")), 1, 1},
		{between(open(false, ""), out("a")), 3, 3},
	} {
		a := row.x.made(t)
		if _, err := a.Table(row.count - 1); err != api.ErrStates {
			t.Errorf("%v: Table(%d) answers %v", row.x, row.count-1, err)
		}
		table, err := a.Table(row.count)
		if err != nil || len(table.Accept) != row.states {
			t.Errorf("%v: Table(%d) answers %d states and %v", row.x, row.count, len(table.Accept), err)
		}
		holdTable(t, row.x)
	}
}

// P7.3: every automaton's table against the model's, at every most.
func TestTables(t *testing.T) {
	const shares = 16
	all := allTold()
	for share := range shares {
		t.Run(fmt.Sprint("share ", share), func(t *testing.T) {
			t.Parallel()
			texts := allTexts(3, "ab\x00\xff*\xc3")
			for i := share; i < len(all); i += shares {
				table := holdTable(t, all[i])
				for _, s := range append(all[i].near(), texts...) {
					if goneThrough(table, s) != all[i].accepts(s) {
						t.Fatalf("%v: the table is wrong over %q", all[i], s)
					}
				}
			}
		})
	}
}

// P7.3: made automata.
func TestTablesMade(t *testing.T) {
	for seed := range 8 {
		t.Run(fmt.Sprint("seed ", seed), func(t *testing.T) {
			t.Parallel()
			dice := rand.New(rand.NewSource(int64(seed)))
			for range 40 {
				alphabet := []string{"ab", "a\x00\xff", "abc*?", "\x00\x01\x02"}[dice.Intn(4)]
				holdTable(t, madeTold(dice, 6, alphabet))
			}
		})
	}
}

// P7.3: automata that accept the same texts have the same table, and others have another.
func TestSameTexts(t *testing.T) {
	same := [][]told{
		{heading(""), wildly("*"), wildly("***"), between(open(true, "x"), open(false, "y")), between(in(""), open(false, ""))},
		{heading("a"), wildly("a*"), wildly("\\a**"), between(in("a"), out("b"))},
		{heading("\xff"), wildly("\xff*"), between(in("\xff"), open(false, ""))},
		{heading("\xff\xff"), wildly("\xff\xff*"), between(in("\xff\xff"), open(false, ""))},
		{exactly(""), wildly(""), nearly("", 0), between(open(false, ""), in("")), between(in(""), in("")), between(open(false, ""), out("\x00"))},
		{exactly("ab"), wildly("ab"), wildly("\\a\\b"), nearly("ab", 0), between(in("ab"), in("ab")), between(in("ab"), out("ab\x00"))},
		{exactly("b\x00"), wildly("b\x00"), between(out("b"), in("b\x00")), between(out("b"), out("b\x00\x00"))},
		{wildly("?*"), wildly("*?"), wildly("*?*"), between(out(""), open(false, "")), between(in("\x00"), open(false, ""))},
		{wildly("?*?"), wildly("??*"), wildly("*?*?*")},
		{wildly("*a*"), wildly("**a**")},
		{wildly("\\*"), exactly("*")},
		{between(out("b"), in("b")), between(in("b"), in("a")), between(out("b"), out("b\x00")), between(open(false, ""), out(""))},
	}
	var firsts []api.Table
	for _, list := range same {
		first := holdTable(t, list[0])
		for _, x := range list[1:] {
			if !sameTable(holdTable(t, x), first) {
				t.Errorf("%v and %v accept the same, and have unlike tables", list[0], x)
			}
		}
		for i, other := range firsts {
			if sameTable(first, other) {
				t.Errorf("%v and %v have one table", list[0], same[i][0])
			}
		}
		firsts = append(firsts, first)
	}
}

// P7.3: among all automata, two that accept the same short texts (as many as tell their tables apart) have one table.
func TestTablesAreOne(t *testing.T) {
	type seen struct {
		x     told
		table api.Table
	}
	texts := allTexts(5, "\x00a")
	byTexts := map[string][]seen{}
	shared := 0
	for _, x := range allTold() {
		a := x.made(t)
		table, err := a.Table(1024)
		if err != nil {
			t.Fatalf("%v: %v", x, err)
		}
		var accepted strings.Builder
		for _, s := range texts {
			fmt.Fprint(&accepted, a.Accepts(s))
		}
		list := byTexts[accepted.String()]
		if slices.ContainsFunc(list, func(other seen) bool { return sameTable(table, other.table) }) {
			shared++
			continue
		}
		for _, other := range list {
			if s, ok := toldApart(table, other.table); !ok || a.Accepts(s) == other.x.accepts(s) {
				t.Fatalf("%v and %v have unlike tables, and accept the same", x, other.x)
			}
		}
		byTexts[accepted.String()] = append(list, seen{x, table})
	}
	if shared < 500 {
		t.Errorf("only %d have the table of another", shared)
	}
}

// toldApart is a text that just one of two tables accepts.
func toldApart(a, b api.Table) (string, bool) {
	type pair struct{ a, b int }
	begin := pair{a.Start, b.Start}
	texts := map[pair]string{begin: ""}
	for ring := []pair{begin}; len(ring) > 0; ring = ring[1:] {
		p := ring[0]
		if a.Accept[p.a] != b.Accept[p.b] {
			return texts[p], true
		}
		for c := range 256 {
			q := pair{a.Next[256*p.a+c], b.Next[256*p.b+c]}
			if _, ok := texts[q]; !ok {
				texts[q] = texts[p] + string([]byte{byte(c)})
				ring = append(ring, q)
			}
		}
	}
	return "", false
}

// P7.3: at MaxStates descriptions there is a table, whatever most; above it there is none.
func TestMaxStates(t *testing.T) {
	word := func(n int) string { return strings.Repeat("abcd", 300)[:n] }
	for _, row := range []struct {
		good, bad told
	}{
		{exactly(word(1022)), exactly(word(1023))},
		{heading(word(1022)), heading(word(1023))},
		{wildly(word(1022)), wildly(word(1023))},
		{wildly(strings.Repeat("?", 1022)), wildly(strings.Repeat("?", 1023))},
		{nearly(word(1022), 0), nearly(word(1023), 0)},
		{between(in(word(1021)), open(false, "")), between(in(word(1022)), open(false, ""))},
		{between(in(word(1022)), in(word(1022))), between(in(word(1023)), in(word(1023)))},
		{wildly("*" + word(1021)), wildly("*" + word(1024))},
	} {
		for _, most := range []int{1024, 1025, 1 << 40, math.MaxInt} {
			table, err := row.good.made(t).Table(most)
			if err != nil {
				t.Fatalf("%.20s..: Table(%d) answers %v", row.good, most, err)
			}
			if most == 1024 {
				holdForm(t, fmt.Sprintf("%.20s", row.good), table)
			}
			table, err = row.bad.made(t).Table(most)
			if err != api.ErrStates || len(table.Accept) > 0 || len(table.Next) > 0 {
				t.Fatalf("%.20s..: Table(%d) answers %v", row.bad, most, err)
			}
		}
	}
	if _, err := exactly(word(1022)).made(t).Table(1023); err != api.ErrStates {
		t.Errorf("Table(1023) with 1024 descriptions answers %v", err)
	}
	for _, x := range []told{wildly("*a" + strings.Repeat("?", 17) + "*"), wildly("*a" + strings.Repeat("?", 10)), exactly(strings.Repeat("long", 100000)), nearly(strings.Repeat("long", 100000), 2), wildly(strings.Repeat("*?", 100000)), wildly("*" + strings.Repeat("ab", 100000))} {
		if table, err := x.made(t).Table(math.MaxInt); err != api.ErrStates || len(table.Next) > 0 {
			t.Errorf("%.20s..: Table answers %v", x, err)
		}
	}
	if table, err := wildly("*a" + strings.Repeat("?", 8)).made(t).Table(1024); err != nil || len(table.Accept) != 512 {
		t.Errorf("the sets of nine bytes: %d states and %v", len(table.Accept), err)
	}
}

// P7.3: long automata, whose tables are too large for the model, over many texts.
func TestLongTables(t *testing.T) {
	dice := rand.New(rand.NewSource(77))
	for range 30 {
		word := madeText(dice, 60, "abc")
		for _, x := range []told{nearly(word, 2), nearly(word, 1), between(in(word), out(word+"c")), wildly("*" + word), wildly(word[:len(word)/2] + "*" + word[len(word)/2:])} {
			table, err := x.made(t).Table(1024)
			if err != nil {
				continue
			}
			holdForm(t, x.String(), table)
			for range 60 {
				s := edited(dice, word, dice.Intn(4), "abc")
				if goneThrough(table, s) != x.made(t).Accepts(s) {
					t.Fatalf("%v: the table is wrong over %q", x, s)
				}
			}
		}
	}
}

// P7.3: two tables of one automaton share nothing, with each other or with it.
func TestTablesAreApart(t *testing.T) {
	for _, x := range allTold() {
		a := x.made(t)
		first, err := a.Table(1024)
		if err != nil {
			t.Fatal(err)
		}
		second, _ := a.Table(1024)
		kept := api.Table{Accept: slices.Clone(second.Accept), Next: slices.Clone(second.Next)}
		accept, next := first.Accept[:cap(first.Accept)], first.Next[:cap(first.Next)]
		for i := range accept {
			accept[i] = !accept[i]
		}
		for i := range next {
			next[i] = -7
		}
		third, _ := a.Table(1024)
		if !sameTable(second, kept) || !sameTable(third, kept) {
			t.Fatalf("%v: a table sees another written over", x)
		}
		for _, s := range x.near() {
			holdText(t, x, a, s)
		}
	}
}
