package vm_test

import (
	"fmt"
	"strings"
	"testing"

	"concord/api"
)

// seen is what a visit comes to above One, and the moves behind it.
type seen struct {
	score uint64
	moves int
}

// wantSeen says what code that puts one value comes to at each document of a part, visit by visit, and how far the cursors have come. An all below it makes a hit of each document.
func wantSeen(t testing.TB, name, tables, code string, over made, want ...seen) {
	t.Helper()
	listing := fmt.Sprintf("%s; every; all; %s; opt; end", tables, code)
	p := read(t, listing)
	hold(t, p, over, kinds{})
	m := mustNew(t, p, over)
	var got []seen
	for {
		hit, ok := m.Next()
		if !ok {
			break
		}
		_, moves, _ := m.Counts()
		got = append(got, seen{hit.Score - 262144, moves})
	}
	if fmt.Sprint(got) != fmt.Sprint(want) {
		t.Errorf("%s: %s comes to %v, not %v", name, listing, got, want)
	}
}

// P23.1: term with the cursor behind, at and ahead of the document, and at its end. Sat(1, 1, 1) is 465, Sat(1, 3, 1) 256, Sat(2, 3, 1) 409.
func TestTerm(t *testing.T) {
	over := texts(t, "x", "a", "x", "x", "a x x", "a a x", "x", "x")
	wantSeen(t, "once", `avgs 1; cursor 0 "a"`, "term 0 1", over,
		seen{0, 1},             // behind: it goes on to 1, ahead
		seen{465, 1},           // at it
		seen{0, 2}, seen{0, 2}, // it goes on to 4, and stays ahead
		seen{256, 2}, seen{409, 3}, // at it, and behind: to 5
		seen{0, 4}, seen{0, 4}) // to its end, and at its end
	wantSeen(t, "with a weight", `avgs 1; cursor 0 "a"`, "term 0 1000", over,
		seen{0, 1}, seen{465000, 1}, seen{0, 2}, seen{0, 2}, seen{256000, 2}, seen{409000, 3}, seen{0, 4}, seen{0, 4})
	wantSeen(t, "with the weight 0", `avgs 1; cursor 0 "a"`, "term 0 0; not; not; scale 7", over,
		seen{0, 1}, seen{0, 1}, seen{0, 2}, seen{0, 2}, seen{0, 2}, seen{0, 3}, seen{0, 4}, seen{0, 4})
	wantSeen(t, "three times in one code", `avgs 1; cursor 0 "a"`, "term 0 1; term 0 2; term 0 4; or; or", over,
		seen{0, 1}, seen{7 * 465, 1}, seen{0, 2}, seen{0, 2}, seen{7 * 256, 2}, seen{7 * 409, 3}, seen{0, 4}, seen{0, 4})
	wantSeen(t, "of two cursors over one term", `avgs 1; cursor 0 "a"; cursor 0 "a"`, "term 0 1; term 1 2; or", over,
		seen{0, 2}, seen{3 * 465, 2}, seen{0, 4}, seen{0, 4}, seen{3 * 256, 4}, seen{3 * 409, 6}, seen{0, 8}, seen{0, 8})
}

// P23.1: a hit of a term that counts 0 is a hit.
func TestTermOfWeightNought(t *testing.T) {
	over := texts(t, "x", "a", "a a")
	wantRun(t, "the weight 0", `avgs 1; cursor 0 "a"; every; term 0 0; end`, over,
		api.Run{Hits: []api.Hit{{Id: 101}, {Id: 102}}, Steps: 6, Moves: 2, Visits: 3})
	// 465 x 2^63 is 2^63, Sat(2, 2, 1), 499, x 2^63 too.
	wantRun(t, "a weight of 2^63", `avgs 1; cursor 0 "a"; every; term 0 9223372036854775808; end`, over,
		api.Run{Hits: []api.Hit{{Id: 101, Score: 1 << 63}, {Id: 102, Score: 1 << 63}}, Steps: 6, Moves: 2, Visits: 3})
	wantRun(t, "a weight of 2^64 less 1", `avgs 1; cursor 0 "a"; every; term 0 18446744073709551615; end`, over,
		api.Run{Hits: []api.Hit{{Id: 101, Score: 1<<64 - 465}, {Id: 102, Score: 1<<64 - 499}}, Steps: 6, Moves: 2, Visits: 3})
}

// P23.1: a term that the part doesn't have, or has in another field, or has in dead documents alone.
func TestTermThatIsNotThere(t *testing.T) {
	over := texts(t, "x", "y", "x")
	for _, term := range []string{"a", "", "xx", `\00`, strings.Repeat("x", 64)} {
		wantSeen(t, "not there", `avgs 1; cursor 0 "`+term+`"`, "term 0 1", over, seen{0, 1}, seen{0, 1}, seen{0, 1})
		wantRun(t, "not there", `avgs 1; cursor 0 "`+term+`"; drive 0; all; end`, over, api.Run{Moves: 1})
	}
	two := mustMake(t, mustParse(t, "t:text;u:text"), append(inField(1, "t", "a", "b"), inField(5, "u", "b", "a")...))
	wantSeen(t, "in one field", `avgs 1 1; cursor 0 "a"; cursor 1 "a"`, "term 0 1; term 1 2; or", two,
		seen{465, 2}, seen{0, 3}, seen{0, 3}, seen{930, 3})
	wantSeen(t, "in dead ones", `avgs 1; cursor 0 "a"`, "term 0 1", texts(t, "!a", "x", "!a", "x"), seen{0, 2}, seen{0, 3})
	wantSeen(t, "in a dead one at the end", `avgs 1; cursor 0 "a"`, "term 0 1", texts(t, "x", "a", "x", "!a"), seen{0, 1}, seen{465, 1}, seen{0, 2})
	wantRun(t, "no document at all", `avgs 1; cursor 0 "a"; every; term 0 1; end`, texts(t), api.Run{})
	wantRun(t, "no document that could drive", `avgs 1; cursor 0 "a"; drive 0; term 0 1; end`, texts(t), api.Run{Moves: 1})
}

// P23.1: freq, length and average are those of the cursor's own field.
func TestTermsOfFields(t *testing.T) {
	s := mustParse(t, "t:text;k:keyword;u:text")
	docs := []api.Doc{
		{Id: 1, Values: []api.Value{{Name: "t", Text: "a a b"}, {Name: "k", Text: "a"}, {Name: "u", Text: "b a a a c d"}, {Name: "k", Text: "b"}}},
		{Id: 2, Values: []api.Value{{Name: "u", Text: "a"}}},
	}
	over := mustMake(t, s, docs)
	// Sat(2, 3, 5) is 102400 / 142, Sat(1, 2, 0) 10240 / 31, Sat(3, 6, 9) 276480 / 351, Sat(1, 1, 9) 92160 / 126.
	for i, want := range [][]seen{{{721, 1}, {0, 2}}, {{330, 1}, {0, 2}}, {{787, 1}, {731, 2}}} {
		wantSeen(t, "of the field", fmt.Sprintf(`avgs 5 0 9; cursor %d "a"`, i), "term 0 1", over, want...)
	}
	wantSeen(t, "of all fields", `avgs 5 0 9; cursor 2 "a"; cursor 0 "a"; cursor 1 "a"`, "term 0 1; term 1 1000; term 2 1000000; least 3 1", over,
		seen{330721787, 3}, seen{731, 6})
}

// rowOf are so many documents with the word a, of which those at these places have the word b.
func rowOf(t testing.TB, n int, places ...int) made {
	list := make([]string, n)
	for i := range list {
		list[i] = "a"
	}
	for _, i := range places {
		list[i] = "a b"
	}
	return texts(t, list...)
}

// P23.1: a cursor that is asked for few documents goes over blocks of postings by their skips.
func TestTermOverBlocks(t *testing.T) {
	over := rowOf(t, 40, 0, 20, 39)
	// a, at 0: 1 move; at 20: a block and the place 4 counted from 1; at 39: a block and the place 7. b, that drives: 1 move each, and 1 to its end.
	wantTold(t, "blocks", `avgs 1; cursor 0 "a"; cursor 0 "b"; drive 1; term 0 0; end`, over,
		told{api.Hit{Id: 100}, true, 2, 2, 1}, told{api.Hit{Id: 120}, true, 4, 2 + 6 + 1, 2}, told{api.Hit{Id: 139}, true, 6, 9 + 9 + 1, 3}, told{api.Hit{}, false, 6, 20, 3})
	// From the beginning on into the third block, and to the end without being asked.
	wantTold(t, "far blocks", `avgs 1; cursor 0 "a"; cursor 0 "b"; drive 1; term 0 0; end`, rowOf(t, 50, 33),
		told{api.Hit{Id: 133}, true, 2, 2 + 2 + 1, 1}, told{api.Hit{}, false, 2, 6, 1})
	// The last one of a block, and the first one of the next.
	wantTold(t, "at the ends of blocks", `avgs 1; cursor 0 "a"; cursor 0 "b"; drive 1; term 0 0; end`, rowOf(t, 32, 15, 16, 31),
		told{api.Hit{Id: 115}, true, 2, 16 + 1, 1}, told{api.Hit{Id: 116}, true, 4, 17 + 2, 2}, told{api.Hit{Id: 131}, true, 6, 19 + 15 + 1, 3}, told{api.Hit{}, false, 6, 36, 3})
}

// abc are the tables of a phrase of three words.
const abc = `avgs 3; cursor 0 "a"; cursor 0 "b"; cursor 0 "c"; near 0 0+0 1+1 2+2`

// P23.1: a phrase whose first, middle or last cursor stands elsewhere, the others being left as they are; and one with the freq 0. Sat(1, 3, 3) is 30720 / 66, Sat(2, 6, 3) is 61440 / 123.
func TestPhrase(t *testing.T) {
	over := texts(t, "a b c", "b c", "a c", "a b", "c b a", "a b c a b c", "x")
	wantSeen(t, "a phrase", abc, "phrase 0 1", over,
		seen{465, 6},  // each goes on to 0, and tells a position
		seen{0, 7},    // a goes on to 2; b and c are left at 0
		seen{0, 9},    // b goes on from 0 to 3, by two places; c is left at 0
		seen{0, 13},   // a goes on to 3, c from 0 to 4, by three places; no position is told
		seen{0, 18},   // a and b go on to 4, where c is; each tells a position, but there is no phrase
		seen{499, 27}, // each goes on, and tells two positions
		seen{0, 28})   // a goes to its end, b and c are left
	wantRun(t, "as it stands", abc+"; every; phrase 0 1; end", over,
		api.Run{Hits: []api.Hit{{Id: 100, Score: 465}, {Id: 105, Score: 499}}, Steps: 14, Moves: 28, Visits: 7})
	wantRun(t, "with a weight of 2^64 less 2", abc+"; every; phrase 0 18446744073709551614; end", over,
		api.Run{Hits: []api.Hit{{Id: 100, Score: 1<<64 - 930}, {Id: 105, Score: 1<<64 - 998}}, Steps: 14, Moves: 28, Visits: 7})
	wantRun(t, "with the weight 0", abc+"; every; phrase 0 0; end", over,
		api.Run{Hits: []api.Hit{{Id: 100}, {Id: 105}}, Steps: 14, Moves: 28, Visits: 7})
}

// P23.1: the cursors are asked in the order of the phrase, not in that of the program.
func TestPhraseInItsOrder(t *testing.T) {
	over := texts(t, "a b", "a", "b", "b a", "a b")
	for listing, want := range map[string][]seen{
		// a: 0 1 3 4; b: 0 2 3 4. With a first, b is left at 0 at 1 and 2 alone.
		`near 0 0+0 1+1`: {{465, 4}, {0, 6}, {0, 7}, {0, 10}, {465, 14}},
		`near 0 1+1 0+0`: {{465, 4}, {0, 5}, {0, 7}, {0, 10}, {465, 14}},
	} {
		wantSeen(t, "in its order", `avgs 2; cursor 0 "a"; cursor 0 "b"; `+listing, "phrase 0 1", over, want...)
	}
	// Only the one that is asked first goes on, where it goes to its end.
	none := texts(t, "b", "b", "b")
	wantSeen(t, "the first is nowhere", `avgs 2; cursor 0 "a"; cursor 0 "b"; near 0 0+0 1+1`, "phrase 0 1", none, seen{0, 1}, seen{0, 1}, seen{0, 1})
	wantSeen(t, "the last is nowhere", `avgs 2; cursor 0 "a"; cursor 0 "b"; near 0 1+1 0+0`, "phrase 0 1", none, seen{0, 2}, seen{0, 3}, seen{0, 4})
}

// P23.1: a phrase with its cursors behind, ahead, at the document and at their ends, and with one of a term that the part doesn't have.
func TestPhraseAnywhere(t *testing.T) {
	over := texts(t, "x", "x", "a b", "x", "a", "b", "x", "x")
	tables := `avgs 2; cursor 0 "a"; cursor 0 "b"; cursor 0 "nowhere"; near 0 0+0 1+1; near 0 2+0 0+1 1+2; near 0 0+0 2+1 1+1; near 0 0+0 1+1 2+2`
	for code, want := range map[string][]seen{
		// a: 2 and 4; b: 2 and 5. Sat(1, 2, 2) is 465.
		"phrase 0 1": {{0, 1}, {0, 1}, {465, 4}, {0, 5}, {0, 6}, {0, 7}, {0, 7}, {0, 7}},
		"phrase 1 1": {{0, 1}, {0, 1}, {0, 1}, {0, 1}, {0, 1}, {0, 1}, {0, 1}, {0, 1}},
		"phrase 2 1": {{0, 1}, {0, 1}, {0, 2}, {0, 3}, {0, 3}, {0, 4}, {0, 4}, {0, 4}},
		"phrase 3 1": {{0, 1}, {0, 1}, {0, 3}, {0, 4}, {0, 5}, {0, 6}, {0, 6}, {0, 6}},
		// The terms take their cursors to each document ahead of the phrase.
		"term 1 1; term 0 1; least 2 2; not; miss 2; phrase 0 1; and": {{0, 2}, {0, 2}, {0, 2}, {0, 4}, {0, 4}, {0, 5}, {0, 6}, {0, 6}},
		"term 1 1; term 0 1; and; miss 2; phrase 0 3; and":            {{0, 2}, {0, 2}, {5 * 465, 4}, {0, 6}, {0, 6}, {0, 7}, {0, 8}, {0, 8}},
	} {
		wantSeen(t, "anywhere", tables, code, over, want...)
	}
}

// P23.1: slop, unlike offsets, and one cursor twice in a phrase. Its positions count as moves once.
func TestPhraseOfAnyKind(t *testing.T) {
	over := texts(t, "a b", "a x b", "b a", "a a a", "x a x x b")
	for _, row := range []struct {
		near string
		freq []int // 0: a miss
	}{
		{"near 0 0+0 1+1", []int{1, 0, 0, 0, 0}},
		{"near 1 0+0 1+1", []int{1, 1, 0, 0, 0}},
		{"near 2 0+0 1+1", []int{1, 1, 1, 0, 1}},
		{"near 2147483646 0+0 1+1", []int{1, 1, 1, 0, 1}},
		{"near 0 0+0 1+2", []int{0, 1, 0, 0, 0}},
		{"near 0 0+5 1+8", []int{0, 0, 0, 0, 1}},
		{"near 0 0+1 1+0", []int{0, 0, 1, 0, 0}},
		{"near 0 0+0 0+1", []int{0, 0, 0, 2, 0}},
		{"near 0 0+0 0+1 0+2", []int{0, 0, 0, 1, 0}},
		{"near 1 0+0 0+1", []int{1, 1, 1, 3, 1}},
		{"near 1 0+0 0+0", []int{1, 1, 1, 3, 1}},
		{"near 0 0+2147483646", []int{1, 1, 1, 3, 1}},
		{"near 0 0+0 1+2147483646", []int{0, 0, 0, 0, 0}},
		{"near 2147483646 0+0 1+2147483646", []int{1, 1, 0, 0, 1}},
	} {
		var hits []api.Hit
		for i, freq := range row.freq {
			if freq > 0 {
				hits = append(hits, api.Hit{Id: 100 + i, Score: satOf(freq, over.sheets[i].lengths[0], 2)})
			}
		}
		p := read(t, `avgs 2; cursor 0 "a"; cursor 0 "b"; `+row.near+"; every; phrase 0 1; end")
		if run := hold(t, p, over, kinds{}); fmt.Sprint(run.Hits) != fmt.Sprint(hits) {
			t.Errorf("%s comes to %v, not %v", row.near, run.Hits, hits)
		}
	}
	wantSeen(t, "one cursor three times", `avgs 3; cursor 0 "a"; near 0 0+0 0+1 0+2`, "phrase 0 1", texts(t, "x", "a a a", "a"), seen{0, 1}, seen{465, 4}, seen{0, 6})
}

// satOf is the chapter 12's formula, as it stands there.
func satOf(f, l, a int) uint64 {
	return uint64(10240 * f * a / (10*f*a + 3*a + 9*l))
}

// P23.1: phrases and terms that share cursors: a document's positions are moves once, however often they are asked.
func TestSharedCursors(t *testing.T) {
	over := texts(t, "a b a", "a", "b a b", "x")
	tables := `avgs 3; cursor 0 "a"; cursor 0 "b"; near 0 0+0 1+1; near 0 1+0 0+1; near 0 0+0`
	// Sat(1, 3, 3) is 465, Sat(1, 1, 3) 30720 / 48, Sat(2, 3, 3) 61440 / 96.
	wantSeen(t, "two phrases", tables, "phrase 0 1; phrase 1 1000; or", over, seen{465465, 5}, seen{0, 7}, seen{465465, 11}, seen{0, 13})
	wantSeen(t, "a term, then phrases", tables, "term 0 1; miss 4; phrase 0 0; or; phrase 1 0; or", over, seen{640, 5}, seen{640, 7}, seen{465, 11}, seen{0, 12})
	wantSeen(t, "a phrase of one word", tables, "phrase 2 1", over, seen{640, 3}, seen{640, 5}, seen{465, 7}, seen{0, 8})
	wantSeen(t, "a phrase of one word, another, and its term", tables, "phrase 2 1; phrase 2 1; or; term 0 1; or", over, seen{3 * 640, 3}, seen{3 * 640, 5}, seen{3 * 465, 7}, seen{0, 8})
	wantSeen(t, "a cursor that isn't asked where the other misses", tables, "term 1 1; miss 2; phrase 1 0; or", over, seen{465, 5}, seen{0, 6}, seen{640, 11}, seen{0, 12})
}

// P23.1: length and average of a phrase are those of its cursors' field.
func TestPhraseOfFields(t *testing.T) {
	s := mustParse(t, "t:text;u:text")
	over := mustMake(t, s, []api.Doc{{Id: 1, Values: []api.Value{{Name: "t", Text: "a b a b"}, {Name: "u", Text: "a b c c c c c"}}}})
	tables := `avgs 3 9; cursor 0 "a"; cursor 1 "a"; cursor 0 "b"; cursor 1 "b"; near 0 0+0 2+1; near 0 1+0 3+1`
	wantSeen(t, "of the one", tables, "phrase 0 1", over, seen{satOf(2, 4, 3), 6})
	wantSeen(t, "of the other", tables, "phrase 1 1", over, seen{satOf(1, 7, 9), 4})
}

// P23.1: positions of two values lie apart.
func TestPhraseOverValues(t *testing.T) {
	s := mustParse(t, "t:text")
	over := mustMake(t, s, []api.Doc{{Id: 1, Values: []api.Value{{Name: "t", Text: "x a"}, {Name: "t", Text: "b"}}}})
	// b stands 16 behind where it would stand.
	for slop, freq := range map[int]int{0: 0, 15: 0, 16: 1} {
		var want seen
		if want.moves = 4; freq == 1 {
			want.score = satOf(1, 3, 3)
		}
		wantSeen(t, "two values", fmt.Sprintf(`avgs 3; cursor 0 "a"; cursor 0 "b"; near %d 0+0 1+1`, slop), "phrase 0 1", over, want)
	}
}
