package vm_test

import (
	"testing"

	"concord/api"
	"concord/isa"
	"concord/rewrite"
	"concord/verify"
)

// fuzzed are parts of one field up to three, with dead documents in them.
func fuzzed(t testing.TB) []made {
	docs := append(inField(3, "t", "a b a", "b", "", "c b a b", "a b", "c c", "a"), inField(20, "u", "x", "a x", "a a", "b")...)
	docs = append(docs, api.Doc{Id: 30, Values: []api.Value{{Name: "u", Text: "a x"}, {Name: "t", Text: "b a b c"}}})
	three := mustParse(t, "t:text;u:text;k:keyword")
	return []made{
		texts(t, "a a b", "!b", "b a", "", "a b", "!a", "b a b a"),
		mustMake(t, mustParse(t, "t:text;u:text"), docs, 1, 7),
		mustMake(t, three, append(docs, api.Doc{Id: 40, Values: []api.Value{{Name: "k", Text: "a"}}}), 0, 3),
	}
}

// FuzzListing holds the programs of listings against the model, over the part that has as many fields.
func FuzzListing(f *testing.F) {
	m := newMaker(237)
	for range 30 {
		if text, err := isa.Text(m.program(1+m.Intn(3), 8)); err == nil {
			f.Add(text)
		}
	}
	cut := fuzzed(f)
	f.Fuzz(func(t *testing.T, text string) {
		p, _, err := isa.Read(text)
		if err != nil || len(p.Avgs) == 0 || len(p.Avgs) > len(cut) {
			return
		}
		if _, err := verify.Check(p); err == nil {
			hold(t, p, cut[len(p.Avgs)-1], kinds{})
		}
	})
}

// FuzzCode holds any bytes as the code of programs of two fields against the model.
func FuzzCode(f *testing.F) {
	for _, text := range []string{"all; end", "has 1; term 2 5; or; phrase 1 6; or; end", "term 0 5; miss 2; all; and; end", "all; term 1 3; phrase 0 2; least 3 2; hit 0; end"} {
		f.Add(codeOf(f, text), byte(5))
	}
	over := fuzzed(f)[1]
	f.Fuzz(func(t *testing.T, code []byte, drive byte) {
		p := api.Prog{Avgs: []int{2, 1}, Cursors: []api.Leaf{{Term: "a"}, {Term: "b"}, {Field: 1, Term: "a"}}, Code: code}
		p.Nears = []api.Near{{Cursors: []int{0, 1}, Offs: []int{0, 1}}, {Cursors: []int{1, 0, 1}, Offs: []int{0, 1, 2}, Slop: 1}}
		p.All = drive&8 != 0
		for i := range 3 {
			if !p.All && drive>>i&1 == 1 {
				p.Drive = append(p.Drive, i)
			}
		}
		if _, err := verify.Check(p); err == nil {
			hold(t, p, over, kinds{})
		}
	})
}

// FuzzQuery holds P23.4 over the queries that dice of a seed make.
func FuzzQuery(f *testing.F) {
	for seed := range int64(10) {
		f.Add(seed, byte(5*seed))
	}
	f.Fuzz(func(t *testing.T, seed int64, room byte) {
		m := newMaker(seed)
		s, cut := m.cut(t, 3)
		m.room = int(room)
		q, err := rewrite.Normal(m.query(len(s.Fields)))
		if err != nil {
			t.Fatal(err)
		}
		holdMeaning(t, q, s, cut, kinds{})
	})
}
