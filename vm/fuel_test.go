package vm_test

import (
	"math"
	"strings"
	"testing"

	"concord/api"
	"concord/vm"
)

// P23.3: every fuel from below 0 to above the steps, over runs whose last visits hit, miss, or are followed by dead documents.
func TestFuel(t *testing.T) {
	for _, row := range []struct {
		name, listing string
		docs          string
		want          api.Run
	}{
		{"all hit", `avgs 1; every; all; end`, "a b c", api.Run{Hits: ofIds(100, 101, 102), Steps: 6, Visits: 3}},
		{"all miss", `avgs 1; every; none; end`, "a b c", api.Run{Steps: 6, Visits: 3}},
		{"the last one misses", `avgs 1; cursor 0 "a"; every; term 0 0; end`, "a b", api.Run{Hits: []api.Hit{{Id: 100}}, Steps: 4, Moves: 2, Visits: 2}},
		{"dead ones behind", `avgs 1; cursor 0 "a"; drive 0; all; end`, "a !a !a !a", api.Run{Hits: ofIds(100), Steps: 2, Moves: 5, Visits: 1}},
		{"one visit of many steps", `avgs 1; every; all` + strings.Repeat("; not", 40) + "; end", "a", api.Run{Hits: []api.Hit{{Id: 100}}, Steps: 42, Visits: 1}},
		{"skips", `avgs 1; cursor 0 "a"; every; term 0 0; miss 3; not; not; not; end`, "a b", api.Run{Steps: 6 + 3, Moves: 2, Visits: 2}},
		{"no step, none alive", `avgs 1; every; all; end`, "!a !b", api.Run{}},
		{"no step, nothing drives", `avgs 1; all; end`, "a b", api.Run{}},
		{"no step, but moves", `avgs 1; cursor 0 "a"; drive 0; all; end`, "!a b !a", api.Run{Moves: 3}},
	} {
		over := texts(t, strings.Fields(row.docs)...)
		wantRun(t, row.name, row.listing, over, row.want)
		p := read(t, row.listing)
		for fuel := -3; fuel <= row.want.Steps+3; fuel++ {
			run, err := vm.Run(p, over.part, fuel)
			ends := fuel >= row.want.Steps || row.want.Steps == 0
			if ends && (err != nil || !alikeRuns(run, row.want)) || !ends && (err != api.ErrFuel || !alikeRuns(run, api.Run{})) {
				t.Errorf("%s with the fuel %d: %v, %v", row.name, fuel, run, err)
			}
		}
		for _, fuel := range []int{math.MinInt, math.MaxInt} {
			holdFuel(t, p, over, fuel, row.want)
		}
	}
}

// P23.3: a run that lacks fuel doesn't go on: of these steps there would be some 2^30.
func TestFuelOfVeryLongRuns(t *testing.T) {
	over := texts(t, make([]string, api.MaxDocs)...)
	p := read(t, "avgs 1; every; all"+strings.Repeat("; not", 1<<18)+"; end")
	for _, fuel := range []int{math.MinInt, -1, 0, 1, 1000, 1 << 19} {
		if run, err := vm.Run(p, over.part, fuel); err != api.ErrFuel || !alikeRuns(run, api.Run{}) {
			t.Errorf("with the fuel %d: %v, %v", fuel, run, err)
		}
	}
}
