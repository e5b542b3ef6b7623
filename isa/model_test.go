package isa_test

import (
	"encoding/binary"
	"fmt"
	"math/big"
	"regexp"
	"slices"
	"strconv"
	"strings"

	"concord/api"
)

// The model says what the calls must answer, by the chapter's table and by regular expressions for the lines of a listing.

// table is the chapter's table, by the numbers of the operations.
var table = []struct {
	name string
	args int
}{
	{"end", 0}, {"none", 0}, {"all", 0}, {"has", 1}, {"term", 2}, {"phrase", 2}, {"and", 0}, {"or", 0}, {"max", 0}, {"opt", 0},
	{"except", 0}, {"not", 0}, {"scale", 1}, {"fix", 1}, {"least", 2}, {"miss", 1}, {"hit", 1},
}

// modelEncode is the bytes of instructions; false, if there are none.
func modelEncode(list []api.Instr) ([]byte, bool) {
	var out []byte
	for _, in := range list {
		if in.Op < 0 || in.Op >= len(table) {
			return nil, false
		}
		out = append(out, byte(in.Op))
		for i, v := range []uint64{in.A, in.B} {
			if i < table[in.Op].args {
				out = binary.AppendUvarint(out, v)
			} else if v != 0 {
				return nil, false
			}
		}
	}
	return out, true
}

// modelDecode is the instructions of bytes; false, if there are none.
func modelDecode(b []byte) ([]api.Instr, bool) {
	var list []api.Instr
	for len(b) > 0 {
		in := api.Instr{Op: int(b[0])}
		if in.Op >= len(table) {
			return nil, false
		}
		b = b[1:]
		for _, to := range []*uint64{&in.A, &in.B}[:table[in.Op].args] {
			v, n := binary.Uvarint(b)
			if n <= 0 || n != len(binary.AppendUvarint(nil, v)) {
				return nil, false
			}
			*to, b = v, b[n:]
		}
		list = append(list, in)
	}
	return list, true
}

// modelText is a program's listing; false, if it can't be listed.
func modelText(p api.Prog) (string, bool) {
	code, ok := modelDecode(p.Code)
	all := slices.Concat(p.Avgs, p.Drive)
	lines := []string{"avgs" + blankAhead(p.Avgs)}
	for _, c := range p.Cursors {
		all = append(all, c.Field)
		lines = append(lines, fmt.Sprintf("cursor %d %s", c.Field, modelQuoted(c.Term)))
	}
	for _, n := range p.Nears {
		all = slices.Concat(all, []int{n.Slop}, n.Cursors, n.Offs)
		line := fmt.Sprint("near ", n.Slop)
		for i := range min(len(n.Cursors), len(n.Offs)) {
			line += fmt.Sprintf(" %d+%d", n.Cursors[i], n.Offs[i])
		}
		ok = ok && len(n.Cursors) == len(n.Offs)
		lines = append(lines, line)
	}
	if p.All {
		lines = append(lines, "every")
	}
	if len(p.Drive) > 0 {
		lines = append(lines, "drive"+blankAhead(p.Drive))
	}
	for _, in := range code {
		lines = append(lines, table[in.Op].name+blankAhead([]uint64{in.A, in.B}[:table[in.Op].args]))
	}
	if !ok || len(all) > 0 && slices.Min(all) < 0 {
		return "", false
	}
	return strings.Join(lines, "\n") + "\n", true
}

func blankAhead[N int | uint64](list []N) string {
	out := ""
	for _, n := range list {
		out += fmt.Sprint(" ", n)
	}
	return out
}

func modelQuoted(term string) string {
	out := `"`
	for _, c := range []byte(term) {
		if c < 32 || c > 126 || strings.IndexByte(`"\`, c) >= 0 {
			out += fmt.Sprintf(`\%02x`, c)
		} else {
			out += string(rune(c))
		}
	}
	return out + `"`
}

// kinds are the lines of each kind, by a letter.
var kinds = map[byte]*regexp.Regexp{
	'a': lineOf(`avgs(?: N)*`),
	'c': lineOf(`cursor N "(?:[ !#-\[\]-~]|\\(?:[01][0-9a-f]|22|5c|7f|[89a-f][0-9a-f]))*"`),
	'n': lineOf(`near N(?: N\+N)*`),
	'e': lineOf(`every`),
	'd': lineOf(`drive(?: N)+`),
	'i': lineOf(`(?:end|none|all|and|or|max|opt|except|not|(?:has|scale|fix|miss|hit) N|(?:term|phrase|least) N N)`),
}

// order are the kinds of the lines of a listing, by their letters.
var order = regexp.MustCompile(`^ac*n*e?d?i*$`)

func lineOf(form string) *regexp.Regexp {
	return regexp.MustCompile(`^` + strings.ReplaceAll(form, "N", `(?:0|[1-9][0-9]*)`) + `$`)
}

var inQuotes, aNumber = regexp.MustCompile(`".*"`), regexp.MustCompile(`[0-9]+`)

// kindOf is the letter of a line's kind, and its numbers; 0, if it is a line of no listing.
func kindOf(line string) (byte, []uint64) {
	for letter, form := range kinds {
		if !form.MatchString(line) {
			continue
		}
		most := new(big.Int).Lsh(big.NewInt(1), 63)
		if letter == 'i' {
			most.Lsh(most, 1)
		}
		var list []uint64
		for _, digits := range aNumber.FindAllString(inQuotes.ReplaceAllString(line, ""), -1) {
			n, _ := new(big.Int).SetString(digits, 10)
			if n.Cmp(most) >= 0 {
				return 0, nil
			}
			list = append(list, n.Uint64())
		}
		return letter, list
	}
	return 0, nil
}

// modelRead is the program of a listing and 0, or the number of the line at which it fails.
func modelRead(text string) (api.Prog, int) {
	var p api.Prog
	letters := ""
	for i, line := range strings.SplitAfter(text, "\n") {
		if line == "" && i > 0 {
			break
		}
		line, ended := strings.CutSuffix(line, "\n")
		letter, list := kindOf(line)
		letters += string(rune(letter))
		if !ended || !order.MatchString(letters) {
			return api.Prog{}, i + 1
		}
		told(&p, letter, line, list)
	}
	return p, 0
}

// told puts into a program what a line of a listing tells.
func told(p *api.Prog, letter byte, line string, list []uint64) {
	switch letter {
	case 'a':
		p.Avgs = asInts(list)
	case 'c':
		_, term, _ := strings.Cut(line, `"`)
		p.Cursors = append(p.Cursors, api.Leaf{Field: int(list[0]), Term: modelTerm(strings.TrimSuffix(term, `"`))})
	case 'n':
		near := api.Near{Slop: int(list[0])}
		for i, n := range asInts(list[1:]) {
			if i%2 == 0 {
				near.Cursors = append(near.Cursors, n)
			} else {
				near.Offs = append(near.Offs, n)
			}
		}
		p.Nears = append(p.Nears, near)
	case 'e':
		p.All = true
	case 'd':
		p.Drive = asInts(list)
	case 'i':
		name, _, _ := strings.Cut(line, " ")
		for op, row := range table {
			if row.name == name {
				p.Code = append(p.Code, byte(op))
			}
		}
		for _, n := range list {
			p.Code = binary.AppendUvarint(p.Code, n)
		}
	}
}

func asInts(list []uint64) []int {
	var out []int
	for _, n := range list {
		out = append(out, int(n))
	}
	return out
}

var anEscape = regexp.MustCompile(`\\..`)

// modelTerm is what stands between the quotes of a listing, without its escapes.
func modelTerm(text string) string {
	return anEscape.ReplaceAllStringFunc(text, func(escape string) string {
		v, _ := strconv.ParseUint(escape[1:], 16, 8)
		return string([]byte{byte(v)})
	})
}
