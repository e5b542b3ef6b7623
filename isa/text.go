package isa

import (
	"strconv"
	"strings"

	"concord/api"
)

// The words with which the lines ahead of the code begin. None of them is the name of an operation.
const (
	avgsWord   = "avgs"
	cursorWord = "cursor"
	nearWord   = "near"
	everyWord  = "every"
	driveWord  = "drive"
)

// digits write a byte that doesn't stand for itself.
const digits = "0123456789abcdef"

// Text is a program's listing; ErrCode, if it can't be listed.
func Text(p api.Prog) (string, error) {
	code, err := Decode(p.Code)
	if err != nil || !hasGoodTables(p) {
		return "", api.ErrCode
	}
	var w writer
	w.line(avgsWord, p.Avgs)
	for _, c := range p.Cursors {
		w.cursor(c)
	}
	for _, n := range p.Nears {
		w.near(n)
	}
	if p.All {
		w.line(everyWord, nil)
	}
	if len(p.Drive) > 0 {
		w.line(driveWord, p.Drive)
	}
	for _, in := range code {
		w.instruction(in)
	}
	return w.String(), nil
}

// hasGoodTables tells whether a program can be listed, whatever its code is.
func hasGoodTables(p api.Prog) bool {
	if hasBelow(p.Avgs) || hasBelow(p.Drive) {
		return false
	}
	for _, c := range p.Cursors {
		if c.Field < 0 {
			return false
		}
	}
	for _, n := range p.Nears {
		if n.Slop < 0 || hasBelow(n.Cursors) || hasBelow(n.Offs) || len(n.Cursors) != len(n.Offs) {
			return false
		}
	}
	return true
}

func hasBelow(list []int) bool {
	for _, n := range list {
		if n < 0 {
			return true
		}
	}
	return false
}

// writer writes a listing.
type writer struct {
	strings.Builder
}

// line writes a line of a word and numbers.
func (w *writer) line(word string, list []int) {
	w.WriteString(word)
	for _, n := range list {
		w.number(uint64(n))
	}
	w.WriteByte('\n')
}

// number writes a number as a part that isn't its line's first.
func (w *writer) number(n uint64) {
	w.WriteByte(' ')
	w.WriteString(strconv.FormatUint(n, 10))
}

func (w *writer) cursor(c api.Leaf) {
	w.WriteString(cursorWord)
	w.number(uint64(c.Field))
	w.WriteString(` "`)
	for i := range len(c.Term) {
		w.letter(c.Term[i])
	}
	w.WriteString("\"\n")
}

// letter writes a byte of a term.
func (w *writer) letter(c byte) {
	if !isPlain(c) {
		w.WriteByte('\\')
		w.WriteByte(digits[c>>4])
		c = digits[c&15]
	}
	w.WriteByte(c)
}

// isPlain tells whether a byte of a term stands for itself.
func isPlain(c byte) bool {
	return c >= ' ' && c <= '~' && c != '"' && c != '\\'
}

func (w *writer) near(n api.Near) {
	w.WriteString(nearWord)
	w.number(uint64(n.Slop))
	for i, c := range n.Cursors {
		w.number(uint64(c))
		w.WriteByte('+')
		w.WriteString(strconv.Itoa(n.Offs[i]))
	}
	w.WriteByte('\n')
}

func (w *writer) instruction(in api.Instr) {
	w.WriteString(operations[in.Op].name)
	for _, v := range operands(in) {
		w.number(v)
	}
	w.WriteByte('\n')
}
