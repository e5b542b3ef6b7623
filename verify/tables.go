package verify

import (
	"slices"

	"concord/api"
)

// among tells whether i is one of the numbers 0 .. n - 1.
func among(i, n int) bool {
	return i >= 0 && i < n
}

func goodTables(p api.Prog) bool {
	return goodAvgs(p.Avgs) && goodCursors(p) && goodNears(p) && goodDrive(p)
}

func goodAvgs(avgs []int) bool {
	return len(avgs) >= 1 && len(avgs) <= api.MaxFields && slices.Min(avgs) >= 0
}

func goodCursors(p api.Prog) bool {
	for _, c := range p.Cursors {
		if !among(c.Field, len(p.Avgs)) || len(c.Term) > api.MaxTerm {
			return false
		}
	}
	return true
}

// goodNears tells whether the phrases are good. Offsets and slops are below EndDoc, as positions are in layer 9.
func goodNears(p api.Prog) bool {
	for _, n := range p.Nears {
		if len(n.Cursors) == 0 || len(n.Offs) != len(n.Cursors) || !among(n.Slop, api.EndDoc) {
			return false
		}
		if !ofOneField(p.Cursors, n.Cursors) || !goodOffs(n.Offs) {
			return false
		}
	}
	return true
}

// ofOneField tells whether these numbers are those of cursors, all of one field.
func ofOneField(cursors []api.Leaf, numbers []int) bool {
	for _, i := range numbers {
		if !among(i, len(cursors)) || cursors[i].Field != cursors[numbers[0]].Field {
			return false
		}
	}
	return true
}

func goodOffs(offs []int) bool {
	for _, off := range offs {
		if !among(off, api.EndDoc) {
			return false
		}
	}
	return true
}

func goodDrive(p api.Prog) bool {
	if p.All && len(p.Drive) > 0 {
		return false
	}
	// Numbers that rise from above -1 on aren't below 0.
	last := -1
	for _, i := range p.Drive {
		if i <= last || i >= len(p.Cursors) {
			return false
		}
		last = i
	}
	return true
}
