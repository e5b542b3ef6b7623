package vm_test

import (
	"fmt"
	"math"
	"slices"
	"strconv"
	"strings"
	"testing"

	"concord/api"
	"concord/score"
)

// values are what the tables of this file call values: m is a miss; F is 3 below 2^64, E 6 below it, H is 2^63, O is One.
func valueOf(t testing.TB, name string) (uint64, bool) {
	t.Helper()
	switch name {
	case "m":
		return 0, false
	case "F":
		return math.MaxUint64 - 2, true
	case "E":
		return math.MaxUint64 - 5, true
	case "H":
		return 1 << 63, true
	case "O":
		return 262144, true
	}
	n, err := strconv.ParseUint(name, 10, 64)
	if err != nil {
		t.Fatalf("no value: %s", name)
	}
	return n, true
}

// put is the instructions that put a value: by the cursor 0 over a document of its one term, or, for a hit of 0, by a not too.
func put(t testing.TB, name string) string {
	t.Helper()
	if name == "m" {
		return "none"
	}
	v, _ := valueOf(t, name)
	return fmt.Sprintf("term 0 %d", v*inverse)
}

// wantValue says what code comes to over one document of one token.
func wantValue(t testing.TB, code, want string) {
	t.Helper()
	listing := `avgs 1; cursor 0 "a"; every; ` + code + "; end"
	p := read(t, listing)
	run := hold(t, p, texts(t, "a"), kinds{})
	v, hit := valueOf(t, want)
	switch {
	case !hit && len(run.Hits) != 0:
		t.Errorf("%s comes to %v, not to a miss", code, run.Hits)
	case hit && (len(run.Hits) != 1 || run.Hits[0] != api.Hit{Id: 100, Score: v}):
		t.Errorf("%s comes to %v, not to a hit of %d", code, run.Hits, v)
	}
}

func TestInverse(t *testing.T) {
	if x := score.Sat(1, 1, 1) * inverse; x != 1 {
		t.Fatalf("it makes %d", x)
	}
}

// P23.1: the operations that take nothing, and the end.
func TestPuts(t *testing.T) {
	wantValue(t, "none", "m")
	wantValue(t, "all", "O")
	for _, v := range strings.Fields("m 0 7 F H") {
		wantValue(t, put(t, v), v)
	}
	wantValue(t, "none; not", "0")
}

// P23.1: the operations that take two values, over every pair of a miss, a hit of 0, one of a small score and one near 2^64. A table's row is the one below, its column the one on top.
func TestJoins(t *testing.T) {
	names := strings.Fields("m 0 7 F")
	for op, table := range map[string]string{
		"and":    "m m m m  m 0 7 F  m 7 14 4  m F 4 E",
		"or":     "m 0 7 F  0 0 7 F  7 7 14 4  F F 4 E",
		"max":    "m 0 7 F  0 0 7 F  7 7 7 F  F F F F",
		"opt":    "m m m m  0 0 7 F  7 7 14 4  F F 4 E",
		"except": "m m m m  0 m m m  7 m m m  F m m m",
	} {
		for i, want := range strings.Fields(table) {
			x, y := names[i/4], names[i%4]
			code := put(t, x) + "; " + put(t, y) + "; " + op
			wantValue(t, code, want)
			wantValueAbove(t, code, want)
		}
	}
}

// P23.1: those that take one value.
func TestTurns(t *testing.T) {
	names := strings.Fields("m 0 7 F H")
	for op, table := range map[string]string{
		"not":                        "0 m m m m",
		"scale 0":                    "m 0 0 0 0",
		"scale 1":                    "m 0 7 F H",
		"scale 3":                    "m 0 21 18446744073709551607 H",
		"scale 9223372036854775808":  "m 0 H H 0",
		"scale 18446744073709551615": "m 0 18446744073709551609 3 H",
		"fix 0":                      "m 0 0 0 0",
		"fix 1":                      "m O O O O",
		"fix 3":                      "m 786432 786432 786432 786432",
		"fix 70368744177664":         "m 0 0 0 0",
		"fix 70368744177665":         "m O O O O",
		"fix 18446744073709551615":   "m 18446744073709289472 18446744073709289472 18446744073709289472 18446744073709289472",
	} {
		for i, want := range strings.Fields(table) {
			code := put(t, names[i]) + "; " + op
			wantValue(t, code, want)
			wantValueAbove(t, code, want)
		}
	}
}

// wantValueAbove says that what code comes to doesn't hang on what is below it on the stack, and leaves that as it is: with code that comes to one more value behind it, all three are told apart by a sum of unlike digits.
func wantValueAbove(t testing.TB, code, want string) {
	t.Helper()
	below, above := uint64(1000), uint64(1000000)
	v, hit := valueOf(t, want)
	total := below + above + v
	if !hit {
		total = below + above
	}
	whole := fmt.Sprintf("term 0 %d; %s; term 0 %d; least 3 %d", below*inverse, code, above*inverse, map[bool]int{true: 3, false: 2}[hit])
	wantValue(t, whole, strconv.FormatUint(total, 10))
	if !hit {
		wantValue(t, strings.TrimSuffix(whole, "2")+"3", "m")
	}
}

// P23.1: has, at lengths of 0, of 1 and of more, in several fields; a value whose words are all left out has the length 0.
func TestHas(t *testing.T) {
	s := mustParse(t, "t:text,stop;k:keyword;n:number")
	docs := []api.Doc{
		{Id: 3},
		{Id: 4, Values: []api.Value{{Name: "t", Text: "fox"}}},
		{Id: 5, Values: []api.Value{{Name: "t", Text: "the"}}},
		{Id: 6, Values: []api.Value{{Name: "k", Text: "fox"}, {Name: "t", Text: "the red fox"}}},
		{Id: 7, Values: []api.Value{{Name: "n", Text: "0"}, {Name: "k", Text: "x"}}},
	}
	over := mustMake(t, s, docs)
	for field, ids := range [][]int{{4, 6}, {6, 7}, {7}} {
		var hits []api.Hit
		for _, id := range ids {
			hits = append(hits, api.Hit{Id: id, Score: 262144})
		}
		wantRun(t, "has", fmt.Sprintf("avgs 0 0 0; every; has %d; end", field), over, api.Run{Hits: hits, Steps: 10, Visits: 5})
	}
}

// P23.1: least of up to six values, with every set of them that hits and every number asked; the scores are unlike digits.
func TestLeast(t *testing.T) {
	for n := 1; n <= 6; n++ {
		for set := range 1 << n {
			hits, total, digit := 0, uint64(0), uint64(1)
			var codes []string
			for i := range n {
				if set>>i&1 == 0 {
					codes = append(codes, "none")
				} else {
					codes = append(codes, fmt.Sprintf("term 0 %d", digit*inverse))
					hits, total = hits+1, total+digit
				}
				digit *= 10
			}
			for least := 1; least <= n; least++ {
				want := "m"
				if hits >= least {
					want = strconv.FormatUint(total, 10)
				}
				code := fmt.Sprintf("%s; least %d %d", strings.Join(codes, "; "), n, least)
				wantValue(t, code, want)
				if hits == least || hits == least-1 {
					wantValueAbove(t, code, want)
				}
			}
		}
	}
}

// P23.1: least over hits of 0, over sums modulo 2^64, and over many values.
func TestLeastAtEdges(t *testing.T) {
	zero := "none; not"
	wantValue(t, zero+"; "+zero+"; least 2 2", "0")
	wantValue(t, zero+"; none; least 2 1", "0")
	wantValue(t, zero+"; none; least 2 2", "m")
	wantValue(t, put(t, "F")+"; "+put(t, "7")+"; least 2 2", "4")
	wantValue(t, put(t, "F")+"; "+put(t, "F")+"; none; least 3 1", "E")
	wantValue(t, put(t, "H")+"; "+put(t, "H")+"; least 2 1", "0")
	wantValue(t, "all; least 1 1", "O")
	many := strings.Repeat("all; ", 3000)
	wantValue(t, many+"least 3000 3000", "786432000")
	wantValue(t, many+"none; least 3001 3000", "786432000")
	wantValue(t, many+"none; least 3001 3001", "m")
}

// P23.1: the score of a miss counts as 0, wherever the miss comes from.
func TestMissesCountNothing(t *testing.T) {
	all := put(t, "7")
	for _, miss := range []string{
		"none", all + "; not", "none; scale 9", "none; fix 9", "none; " + all + "; and", all + "; none; and", "none; none; or", "none; none; max",
		"none; " + all + "; opt", all + "; " + all + "; except", "none; " + all + "; except", all + "; none; least 2 2", "has 0; not", "term 1 5", "phrase 0 5", "phrase 1 5",
	} {
		code := miss + "; " + put(t, "5")
		for rest, want := range map[string]int{"or": 5, "max": 5, "least 2 1": 5, "and": -1, "opt": -1, "except": -1, "least 2 2": -1} {
			var hits []api.Hit
			if want >= 0 {
				hits = []api.Hit{{Id: 100, Score: uint64(want)}}
			}
			listing := fmt.Sprintf(`avgs 1; cursor 0 "a"; cursor 0 "b"; near 0 1+0; near 0 0+0 0+1; every; %s; %s; end`, code, rest)
			if run := hold(t, read(t, listing), texts(t, "a"), kinds{}); !slices.Equal(run.Hits, hits) {
				t.Errorf("%s comes to %v, not %v", listing, run.Hits, hits)
			}
		}
	}
}
