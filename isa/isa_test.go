package isa_test

import (
	"math"
	"slices"
	"testing"

	"concord/api"
	"concord/isa"
)

// P20.1
func TestTable(t *testing.T) {
	for op, row := range table {
		if name, ok := isa.Name(op); name != row.name || !ok {
			t.Errorf("Name(%d) is %q and %v, not %q", op, name, ok, row.name)
		}
		if n, ok := isa.Args(op); n != row.args || !ok {
			t.Errorf("Args(%d) is %d and %v, not %d", op, n, ok, row.args)
		}
	}
	consts := []int{api.OpEnd, api.OpNone, api.OpAll, api.OpHas, api.OpTerm, api.OpPhrase, api.OpAnd, api.OpOr, api.OpMax, api.OpOpt, api.OpExcept, api.OpNot, api.OpScale, api.OpFix, api.OpLeast, api.OpMiss, api.OpHit}
	for op, number := range consts {
		if op != number {
			t.Errorf("the operation %s has the number %d", table[op].name, number)
		}
	}
}

// outside are numbers that the table doesn't have: beside it, far from it, and such as have its numbers in their lowest bytes.
func outside() []int {
	list := []int{math.MinInt, math.MinInt + 1, math.MaxInt - 1, math.MaxInt, math.MinInt32, math.MaxInt32}
	for i := range 1000 {
		list = append(list, -1-i, len(table)+i)
	}
	for op := range table {
		for _, shift := range []int{8, 16, 31, 32, 62, 63} {
			list = append(list, op+1<<shift, op-1<<shift)
		}
	}
	return list
}

// P20.1
func TestOutsideTheTable(t *testing.T) {
	for _, op := range outside() {
		if name, ok := isa.Name(op); name != "" || ok {
			t.Errorf("Name(%d) is %q and %v", op, name, ok)
		}
		if n, ok := isa.Args(op); n != 0 || ok {
			t.Errorf("Args(%d) is %d and %v", op, n, ok)
		}
	}
}

// P20.1: bytes and listings go by the same names and numbers of operands.
func TestTableElsewhere(t *testing.T) {
	for op := range table {
		name, _ := isa.Name(op)
		n, _ := isa.Args(op)
		line := name + []string{"", " 5", " 5 6"}[n]
		b := slices.Concat([]byte{byte(op)}, []byte{5, 6}[:n])
		if text, err := isa.Text(api.Prog{Code: b}); text != "avgs\n"+line+"\n" || err != nil {
			t.Errorf("Text of % x is %q and %v, not %q", b, text, err, line)
		}
		if p, _, err := isa.Read("avgs\n" + line + "\n"); !slices.Equal(p.Code, b) || err != nil {
			t.Errorf("Read of %q is % x and %v, not % x", line, p.Code, err, b)
		}
	}
}
