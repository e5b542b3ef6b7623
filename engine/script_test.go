package engine_test

import "testing"

// P25.1, P25.2, P25.3, P25.4, P25.5, P2: drawn rows of all calls against the model of the chapter.
func TestDrawnScripts(t *testing.T) {
	met := kinds{}
	for seed := range int64(120) {
		m := newMaker(2500 + seed)
		b := newBench(t, m.schema(t))
		b.met = met
		for range 150 {
			b.step(m)
		}
		b.index()
	}
	met.wantMany(t, 400, "add", "update", "delete", "search", "some match", "none match", "cut some", "cut none")
	met.wantMany(t, 100, "all match", "delete one that waits", "update: concord: document", "delete: concord: document", "delete a given one", "delete by", "delete some")
	met.wantMany(t, 30, "add: concord: field", "add: concord: value", "add: concord: limit", "update: concord: field", "update: concord: value", "update: concord: limit")
	met.wantMany(t, 50, "merge", "merge some", "merge to none", "merge: concord: range", "tidy none", "tidy once", "tidy often", "query", "program")
	met.wantMany(t, 100, "from with some that wait", "from with some dead", "a program with the optimiser", "a program without the optimiser", "leaves drive", "all documents drive")
	for _, name := range []string{"syntax", "too deep", "too many terms", "score overflow"} {
		met.wantMany(t, 8, "search: concord: "+name)
		met.wantMany(t, 3, "delete by: concord: "+name, "program: concord: "+name)
	}
}
