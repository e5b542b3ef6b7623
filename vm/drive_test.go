package vm_test

import (
	"fmt"
	"slices"
	"strings"
	"testing"

	"concord/api"
)

// ofIds are hits of One, of these ids.
func ofIds(ids ...int) []api.Hit {
	var hits []api.Hit
	for _, id := range ids {
		hits = append(hits, api.Hit{Id: id, Score: 262144})
	}
	return hits
}

// P23.1: all documents drive: with no document, with all dead, with the first, a middle one, the last or several dead.
func TestAllDocuments(t *testing.T) {
	for _, row := range []struct {
		name string
		docs []string
		ids  []int
	}{
		{"no document", nil, nil},
		{"one", []string{"a"}, []int{100}},
		{"one without a token", []string{""}, []int{100}},
		{"one dead", []string{"!a"}, nil},
		{"all dead", []string{"!a", "!b", "!"}, nil},
		{"the first dead", []string{"!a", "b", "c"}, []int{101, 102}},
		{"a middle one dead", []string{"a", "!b", "c"}, []int{100, 102}},
		{"the last dead", []string{"a", "b", "!c"}, []int{100, 101}},
		{"the first and the last dead", []string{"!a", "b", "!c"}, []int{101}},
		{"a row of dead ones", []string{"a", "!b", "!b", "!b", "c", "!", "!a"}, []int{100, 104}},
		{"none dead", []string{"a", "", "c", "a b"}, []int{100, 101, 102, 103}},
	} {
		over := texts(t, row.docs...)
		n := len(row.ids)
		wantRun(t, row.name, "avgs 1; every; all; end", over, api.Run{Hits: ofIds(row.ids...), Steps: 2 * n, Visits: n})
		wantRun(t, row.name+", no hit", "avgs 1; every; none; end", over, api.Run{Steps: 2 * n, Visits: n})
		// Nothing drives: neither is a document visited nor a cursor asked.
		wantRun(t, row.name+", nothing drives", `avgs 1; cursor 0 "a"; term 0 1; end`, over, api.Run{})
	}
}

// P23.1: the ids are those of the documents, whatever the local numbers are.
func TestIds(t *testing.T) {
	s := mustParse(t, "t:text")
	docs := []api.Doc{{Id: 0}, {Id: 7}, {Id: 8}, {Id: 1000000}, {Id: api.MaxId - 1}}
	wantRun(t, "ids", "avgs 0; every; all; end", mustMake(t, s, docs, 2), api.Run{Hits: ofIds(0, 7, 1000000, api.MaxId-1), Steps: 8, Visits: 4})
}

// P23.1: cursors drive: none, one, several, with dead documents, and cursors that come to their ends at different places.
func TestDrive(t *testing.T) {
	for _, row := range []struct {
		name  string
		docs  string
		drive string
		ids   []int
		moves int
	}{
		{"none", "a b c", "", nil, 0},
		{"one", "a b a", "a", []int{0, 2}, 3},
		{"one that is nowhere", "a b a", "x", nil, 1},
		{"one that is everywhere", "a a a", "a", []int{0, 1, 2}, 4},
		{"one, the first document dead", "!a b a", "a", []int{2}, 3},
		{"one, a middle one dead", "a !a a", "a", []int{0, 2}, 4},
		{"one, the last dead", "a b !a", "a", []int{0}, 3},
		{"one, all dead", "!a !b !a", "a", nil, 3},
		{"one, others dead", "!b a !b !b a !b", "a", []int{1, 4}, 3},
		{"two", "a b c a", "a b", []int{0, 1, 3}, 3 + 2},
		{"two in one document", "a,b c a,b", "a b", []int{0, 2}, 3 + 3},
		{"two, one of them nowhere", "b a b", "a x", []int{1}, 2 + 1},
		{"two, both nowhere", "b b", "x y", nil, 2},
		{"two, the one behind the other", "a a b b", "a b", []int{0, 1, 2, 3}, 3 + 3},
		{"two, the other behind the one", "b b a a", "a b", []int{0, 1, 2, 3}, 3 + 3},
		{"two, the one's end early", "a b b b", "a b", []int{0, 1, 2, 3}, 2 + 4},
		{"two, the other's end early", "b a a a", "a b", []int{0, 1, 2, 3}, 4 + 2},
		{"two, both dead", "!a !b c", "a b", nil, 2 + 2},
		{"two, dead by turns", "!a b !a b !b a", "a b", []int{1, 3, 5}, 4 + 4},
		{"two, dead ones in a row at the end", "a b !b !a !b", "a b", []int{0, 1}, 3 + 4},
		{"three", "a b c x a,c b,c a,b", "a b c", []int{0, 1, 2, 4, 5, 6}, 4 + 4 + 4},
		{"the last of three alone", "x c y", "a b c", []int{1}, 1 + 1 + 2},
		{"all, and no document", "", "a b c", nil, 3},
	} {
		var docs, cursors, numbers []string
		for _, doc := range strings.Fields(row.docs) {
			docs = append(docs, strings.ReplaceAll(doc, ",", " "))
		}
		for i, term := range strings.Fields(row.drive) {
			cursors = append(cursors, fmt.Sprintf(`; cursor 0 "%s"`, term))
			numbers = append(numbers, fmt.Sprint(i))
		}
		listing := "avgs 1" + strings.Join(cursors, "")
		if numbers != nil {
			listing += "; drive " + strings.Join(numbers, " ")
		}
		var ids []int
		for _, local := range row.ids {
			ids = append(ids, 100+local)
		}
		want := api.Run{Hits: ofIds(ids...), Steps: 2 * len(ids), Moves: row.moves, Visits: len(ids)}
		wantRun(t, row.name, listing+"; all; end", texts(t, docs...), want)
	}
}

// P23.1: of the cursors those alone drive that Drive has, whatever the code asks for.
func TestDriveOfSome(t *testing.T) {
	over := texts(t, "a", "b", "c", "a b", "b c", "a c", "a b c")
	cursors := `avgs 1; cursor 0 "a"; cursor 0 "b"; cursor 0 "c"`
	for listing, ids := range map[string][]int{
		"; drive 0":     {100, 103, 105, 106},
		"; drive 1":     {101, 103, 104, 106},
		"; drive 2":     {102, 104, 105, 106},
		"; drive 0 2":   {100, 102, 103, 104, 105, 106},
		"; drive 1 2":   {101, 102, 103, 104, 105, 106},
		"; drive 0 1 2": {100, 101, 102, 103, 104, 105, 106},
		"; every":       {100, 101, 102, 103, 104, 105, 106},
		"":              {},
	} {
		var hits []api.Hit
		for _, id := range ids {
			if strings.Contains("101 103 104 106", fmt.Sprint(id)) {
				hits = append(hits, api.Hit{Id: id})
			}
		}
		p := read(t, cursors+listing+"; term 1 0; end")
		if run := hold(t, p, over, kinds{}); !slices.Equal(run.Hits, hits) || run.Visits != len(ids) {
			t.Errorf("%q comes to %v, not %v", listing, run, hits)
		}
	}
}

// P23.1: a cursor that drives stands at the document when the code asks for it, and one that the code has taken further on isn't taken on again.
func TestDriveAndCode(t *testing.T) {
	over := texts(t, "a", "b", "a b", "!a", "a")
	wantTold(t, "a drives, a and b are asked", `avgs 1; cursor 0 "a"; cursor 0 "b"; drive 0; term 1 0; not; term 0 1; and; end`, over,
		told{api.Hit{Id: 100, Score: 465}, true, 5, 1 + 1, 1},  // b goes on to 1
		told{api.Hit{Id: 104, Score: 465}, true, 15, 4 + 3, 3}, // at 2 both hit; a goes over 3, b to its end
		told{api.Hit{}, false, 15, 5 + 3, 3})
	wantTold(t, "both drive, b is asked", `avgs 1; cursor 0 "a"; cursor 0 "b"; drive 0 1; term 1 1; end`, over,
		told{api.Hit{Id: 101, Score: 465}, true, 4, 2 + 1, 2}, // at 0 b stands at 1 already
		told{api.Hit{Id: 102, Score: satOf(1, 2, 1)}, true, 6, 2 + 2, 3},
		told{api.Hit{}, false, 8, 5 + 3, 4})
}

// P23.1: very many documents, of which few are alive, and many cursors that drive.
func TestDriveOverMany(t *testing.T) {
	var list, cursors, numbers []string
	for i := range api.MaxDocs {
		text := fmt.Sprintf("w%d", i%97)
		if i%50 != 7 {
			text = "!" + text
		}
		list = append(list, text)
	}
	for i := range 97 {
		cursors = append(cursors, fmt.Sprintf(`; cursor 0 "w%d"`, i))
		numbers = append(numbers, fmt.Sprint(i))
	}
	over := texts(t, list...)
	all := hold(t, read(t, "avgs 1; every; all; end"), over, kinds{})
	some := hold(t, read(t, "avgs 1"+strings.Join(cursors, "")+"; drive "+strings.Join(numbers, " ")+"; all; end"), over, kinds{})
	if len(all.Hits) != 82 || !slices.Equal(all.Hits, some.Hits) || some.Moves != api.MaxDocs+97 {
		t.Errorf("all documents come to %v, all words to %v", all, some)
	}
}
