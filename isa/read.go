package isa

import (
	"strconv"
	"strings"

	"concord/api"
	"concord/codec"
)

// Where in a listing a reader is: the kinds of lines, in their order.
const (
	atBegin = iota
	atAvgs
	atCursors
	atNears
	atEvery
	atDrive
	atCode
)

// How many bits a number may have at most.
const (
	intBits     = 63
	operandBits = 64
)

// Read is the program of a listing; with ErrSyntax the number of the line, from 1 on.
func Read(text string) (api.Prog, int, error) {
	r := reader{ops: byName(), code: codec.NewWriter()}
	// The first line is asked for in any case: of an empty text it isn't ended.
	for number, rest := 1, text; number == 1 || rest != ""; number++ {
		line, behind, ended := strings.Cut(rest, "\n")
		if !ended || !r.line(line) {
			return api.Prog{}, number, api.ErrSyntax
		}
		rest = behind
	}
	r.prog.Code = r.code.Bytes()
	return r.prog, 0, nil
}

// reader reads a listing line by line. Whether a line may follow hangs on the kind of the one before it alone.
type reader struct {
	ops  map[string]int
	prog api.Prog
	code *codec.Writer
	at   int
}

// line reads a line; false, if no listing goes on so.
func (r *reader) line(text string) bool {
	p := parts{rest: text, more: true}
	word, _ := p.next()
	switch word {
	case avgsWord:
		return r.enter(atAvgs) && r.readAvgs(&p)
	case cursorWord:
		return r.enter(atCursors) && r.readCursor(&p)
	case nearWord:
		return r.enter(atNears) && r.readNear(&p)
	case everyWord:
		return r.enter(atEvery) && r.readEvery(&p)
	case driveWord:
		return r.enter(atDrive) && r.readDrive(&p)
	}
	op, ok := r.ops[word]
	return ok && r.enter(atCode) && r.readInstruction(op, &p)
}

// enter goes on to a line of a kind; false, if none may stand here.
func (r *reader) enter(kind int) bool {
	before := r.at
	r.at = kind
	if before == atBegin {
		return kind == atAvgs
	}
	if kind == before {
		return kind == atCursors || kind == atNears || kind == atCode
	}
	return kind > before
}

func (r *reader) readAvgs(p *parts) bool {
	list, ok := p.ints()
	r.prog.Avgs = list
	return ok
}

func (r *reader) readCursor(p *parts) bool {
	field, ok := p.number(intBits)
	if !ok {
		return false
	}
	// The term may have blanks in it: it is all that is left of the line. If nothing is, that is no term.
	term, ok := termOf(p.rest)
	r.prog.Cursors = append(r.prog.Cursors, api.Leaf{Field: int(field), Term: term})
	return ok
}

func (r *reader) readNear(p *parts) bool {
	slop, ok := p.number(intBits)
	if !ok {
		return false
	}
	near := api.Near{Slop: int(slop)}
	for p.more {
		part, _ := p.next()
		// Without a + what stands behind it is empty, which is no number.
		left, right, _ := strings.Cut(part, "+")
		cursor, ok := numberOf(left, intBits)
		if !ok {
			return false
		}
		off, ok := numberOf(right, intBits)
		if !ok {
			return false
		}
		near.Cursors = append(near.Cursors, int(cursor))
		near.Offs = append(near.Offs, int(off))
	}
	r.prog.Nears = append(r.prog.Nears, near)
	return true
}

func (r *reader) readEvery(p *parts) bool {
	r.prog.All = true
	return !p.more
}

func (r *reader) readDrive(p *parts) bool {
	list, ok := p.ints()
	r.prog.Drive = list
	return ok && len(list) > 0
}

func (r *reader) readInstruction(op int, p *parts) bool {
	var both [2]uint64
	for i := range operations[op].args {
		v, ok := p.number(operandBits)
		if !ok {
			return false
		}
		both[i] = v
	}
	put(r.code, api.Instr{Op: op, A: both[0], B: both[1]})
	return !p.more
}

// parts is what is left of a line. There may be more even where the rest is empty: behind a blank at the line's end stands an empty part.
type parts struct {
	rest string
	more bool
}

// next takes the next part; false, if there is none.
func (p *parts) next() (string, bool) {
	if !p.more {
		return "", false
	}
	part, rest, more := strings.Cut(p.rest, " ")
	p.rest, p.more = rest, more
	return part, true
}

// number takes the next part, if it is a number.
func (p *parts) number(bits int) (uint64, bool) {
	part, ok := p.next()
	if !ok {
		return 0, false
	}
	return numberOf(part, bits)
}

// ints takes all parts that are left, if they are numbers.
func (p *parts) ints() ([]int, bool) {
	var list []int
	for p.more {
		n, ok := p.number(intBits)
		if !ok {
			return nil, false
		}
		list = append(list, int(n))
	}
	return list, true
}

// numberOf is the number that a text writes in the one way in which it is listed.
func numberOf(text string, bits int) (uint64, bool) {
	if len(text) > 1 && text[0] == '0' {
		return 0, false
	}
	n, err := strconv.ParseUint(text, 10, bits)
	return n, err == nil
}

// termOf is the term that a text writes, its quotes included, in the one way in which it is listed.
func termOf(text string) (string, bool) {
	if len(text) < 2 || text[0] != '"' || text[len(text)-1] != '"' {
		return "", false
	}
	inner := text[1 : len(text)-1]
	term := make([]byte, 0, len(inner))
	for i := 0; i < len(inner); i++ {
		c := inner[i]
		switch {
		case c == '\\':
			b, ok := byteOf(inner[i+1:])
			if !ok {
				return "", false
			}
			term = append(term, b)
			i += 2
		case isPlain(c):
			term = append(term, c)
		default:
			return "", false
		}
	}
	return string(term), true
}

// byteOf is the byte that the two digits write with which a text begins; false, if there are none, or if that byte stands for itself.
func byteOf(text string) (byte, bool) {
	if len(text) < 2 {
		return 0, false
	}
	high, low := strings.IndexByte(digits, text[0]), strings.IndexByte(digits, text[1])
	if high < 0 || low < 0 {
		return 0, false
	}
	b := byte(high<<4 | low)
	return b, !isPlain(b)
}
