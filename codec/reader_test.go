package codec_test

import (
	"bytes"
	"encoding/hex"
	"fmt"
	"math"
	"math/rand"
	"reflect"
	"runtime"
	"slices"
	"strings"
	"testing"

	"concord/api"
	"concord/codec"
)

// ask is a call of a Reader, what the model says of it, and how a Writer puts its value again.
type ask struct {
	name  string
	call  func(r *codec.Reader) (any, error)
	model func(b []byte, at int) taken
	again func(w *codec.Writer, v any) error
}

// plainAsks are the calls without an argument.
func plainAsks() []ask {
	return []ask{
		{"Byte", func(r *codec.Reader) (any, error) { return r.Byte() }, modelByte,
			func(w *codec.Writer, v any) error { w.Byte(v.(byte)); return nil }},
		{"Uvarint", func(r *codec.Reader) (any, error) { return r.Uvarint() }, modelUvarint,
			func(w *codec.Writer, v any) error { w.Uvarint(v.(uint64)); return nil }},
		{"Varint", func(r *codec.Reader) (any, error) { return r.Varint() }, modelVarint,
			func(w *codec.Writer, v any) error { w.Varint(v.(int64)); return nil }},
		{"Word32", func(r *codec.Reader) (any, error) { return r.Word32() }, modelWord32,
			func(w *codec.Writer, v any) error { w.Word32(v.(uint32)); return nil }},
		{"Word64", func(r *codec.Reader) (any, error) { return r.Word64() }, modelWord64,
			func(w *codec.Writer, v any) error { w.Word64(v.(uint64)); return nil }},
	}
}

// boundAsks are the calls with a bound or a number.
func boundAsks(n int) []ask {
	bound := func(model func(b []byte, at, n int) taken) func(b []byte, at int) taken {
		return func(b []byte, at int) taken { return model(b, at, n) }
	}
	named := func(name string) string { return fmt.Sprintf("%s(%d)", name, n) }
	return []ask{
		{named("Upto"), func(r *codec.Reader) (any, error) { return r.Upto(n) }, bound(modelUptoCall),
			func(w *codec.Writer, v any) error { w.Uvarint(uint64(v.(int))); return nil }},
		{named("Raw"), func(r *codec.Reader) (any, error) { return rawAsText(r, n) }, bound(modelRaw),
			func(w *codec.Writer, v any) error { w.Raw([]byte(v.(string))); return nil }},
		{named("Text"), func(r *codec.Reader) (any, error) { return r.Text(n) }, bound(modelText),
			func(w *codec.Writer, v any) error { w.Text(v.(string)); return nil }},
		{named("Rising"), func(r *codec.Reader) (any, error) { return r.Rising(n) }, bound(modelRising),
			func(w *codec.Writer, v any) error { return w.Rising(v.([]int)) }},
		{named("Packed"), func(r *codec.Reader) (any, error) { return r.Packed(n) }, bound(modelPacked),
			func(w *codec.Writer, v any) error { return w.Packed(v.([]int)) }},
	}
}

func rawAsText(r *codec.Reader, n int) (any, error) {
	b, err := r.Raw(n)
	return string(b), err
}

func asks(bounds ...int) []ask {
	list := plainAsks()
	for _, n := range bounds {
		list = append(list, boundAsks(n)...)
	}
	return list
}

// alike holds an answer against the model's; beside an error the answer must be a zero value, and empty lists are all alike.
func alike(got any, want taken) bool {
	if list, ok := got.([]int); ok {
		wanted, _ := want.value.([]int)
		return slices.Equal(list, wanted)
	}
	if want.err != nil {
		return reflect.ValueOf(got).IsZero()
	}
	return got == want.value
}

// checkAsk asks at the place where r stands, and holds the answer, the place and (P1.5) the bytes read against the model and a Writer.
func checkAsk(t *testing.T, b []byte, r *codec.Reader, a ask) {
	t.Helper()
	at := r.At()
	got, err := a.call(r)
	want := a.model(b, at)
	if err != want.err || !alike(got, want) {
		t.Fatalf("%s over %x at %d: %v, %v, want %v, %v", a.name, b, at, got, err, want.value, want.err)
	}
	if r.At() != want.at || r.Left() != len(b)-want.at {
		t.Fatalf("%s over %x at %d: At %d, Left %d, want At %d", a.name, b, at, r.At(), r.Left(), want.at)
	}
	checkDone(t, b, r)
	if err != nil {
		return
	}
	w := codec.NewWriter()
	if err := a.again(w, got); err != nil || !bytes.Equal(w.Bytes(), b[at:want.at]) {
		t.Fatalf("%s over %x at %d took %x; a Writer puts %x, %v", a.name, b, at, b[at:want.at], w.Bytes(), err)
	}
}

func checkDone(t *testing.T, b []byte, r *codec.Reader) {
	t.Helper()
	at, want := r.At(), error(nil)
	if at < len(b) {
		want = api.ErrTail
	}
	if err := r.Done(); err != want || r.At() != at {
		t.Fatalf("Done over %x at %d: %v, At %d", b, at, err, r.At())
	}
}

// checkAll asks everything at the beginning of the same bytes.
func checkAll(t *testing.T, b []byte, list []ask) {
	t.Helper()
	for _, a := range list {
		checkAsk(t, b, codec.NewReader(b), a)
	}
}

// P1.3, P1.5
func TestReaderOverAllShortBytes(t *testing.T) {
	list := asks(-1, 0, 1, 3, math.MaxInt)
	checkAll(t, nil, list)
	for i := range 256 {
		checkAll(t, []byte{byte(i)}, list)
		for j := range 256 {
			checkAll(t, []byte{byte(i), byte(j)}, list)
		}
	}
}

// P1.3, P1.5
func TestReaderOverAllRowsOfEdges(t *testing.T) {
	edges := []byte{0x00, 0x01, 0x02, 0x03, 0x3f, 0x40, 0x7f, 0x80, 0xff}
	list := asks(2, math.MaxInt)
	row := make([]byte, 5)
	for number := range 9 * 9 * 9 * 9 * 9 {
		for i, rest := 0, number; i < len(row); i++ {
			row[i] = edges[rest%9]
			rest /= 9
		}
		checkAll(t, row, list)
	}
}

// P1.3, P1.5
func TestReaderInAnyOrder(t *testing.T) {
	dice := rand.New(rand.NewSource(2))
	list := asks(math.MinInt, -1, 0, 1, 2, 7, 300, 1<<40, math.MaxInt)
	for range 20000 {
		b := make([]byte, dice.Intn(40))
		for i := range b {
			b[i] = byte(dice.Intn(256) >> (dice.Intn(3) * 3))
		}
		r := codec.NewReader(b)
		checkDone(t, b, r)
		for range 12 {
			checkAsk(t, b, r, list[dice.Intn(len(list))])
		}
	}
}

// P1.3, P1.5
func TestReaderOverSpoiltForms(t *testing.T) {
	dice := rand.New(rand.NewSource(3))
	list := asks(3, 1000, math.MaxInt)
	for _, p := range puts() {
		w := codec.NewWriter()
		if err := p.call(w); err != nil {
			t.Fatal(err)
		}
		whole := w.Bytes()
		for cut := range len(whole) + 1 {
			checkAll(t, whole[:cut], list)
		}
		for range 20 * len(whole) {
			b := w.Bytes()
			b[dice.Intn(len(b))] ^= 1 << dice.Intn(8)
			checkAll(t, b, list)
		}
	}
}

// row is bytes, a call over them, and what it must answer.
type row struct {
	bytes string
	call  ask
	value any
	err   error
}

func checkRows(t *testing.T, rows []row) {
	t.Helper()
	for _, x := range rows {
		b, err := hex.DecodeString(x.bytes)
		if err != nil {
			t.Fatal(err)
		}
		r := codec.NewReader(b)
		got, err := x.call.call(r)
		if err != x.err || !alike(got, taken{value: x.value, err: x.err}) || err != nil && r.At() != 0 {
			t.Errorf("%s over %s: %v, %v, At %d, want %v, %v", x.call.name, x.bytes, got, err, r.At(), x.value, x.err)
		}
		checkAsk(t, b, codec.NewReader(b), x.call)
	}
}

// P1.3
func TestReaderNumbers(t *testing.T) {
	oneByte, uv, v, w32, w64 := plainAsks()[0], plainAsks()[1], plainAsks()[2], plainAsks()[3], plainAsks()[4]
	upto := func(most int) ask { return boundAsks(most)[0] }
	ffs, eighties := strings.Repeat("ff", 9), strings.Repeat("80", 9)
	checkRows(t, []row{
		{"", oneByte, nil, api.ErrShort},
		{"ff", oneByte, byte(255), nil},
		{"", uv, nil, api.ErrShort},
		{"80", uv, nil, api.ErrShort},
		{eighties, uv, nil, api.ErrShort},
		{"8000", uv, nil, api.ErrVarint},
		{"808000", uv, nil, api.ErrVarint},
		{eighties + "00", uv, nil, api.ErrVarint},
		{eighties + "01", uv, uint64(1 << 63), nil},
		{eighties + "80", uv, nil, api.ErrVarint},
		{eighties + "81", uv, nil, api.ErrVarint},
		{ffs + "01", uv, uint64(math.MaxUint64), nil},
		{ffs + "02", uv, nil, api.ErrVarint},
		{"00", uv, uint64(0), nil},
		{"ac02", uv, uint64(300), nil},
		{"", v, nil, api.ErrShort},
		{"8000", v, nil, api.ErrVarint},
		{"8101", v, int64(-65), nil},
		{ffs + "01", v, int64(math.MinInt64), nil},
		{"", upto(-1), nil, api.ErrShort},
		{"8000", upto(-1), nil, api.ErrVarint},
		{"00", upto(-1), nil, api.ErrLimit},
		{"00", upto(math.MinInt), nil, api.ErrLimit},
		{"00", upto(0), 0, nil},
		{"01", upto(0), nil, api.ErrLimit},
		{"ac02", upto(299), nil, api.ErrLimit},
		{"ac02", upto(300), 300, nil},
		{ffs[:16] + "7f", upto(math.MaxInt), math.MaxInt, nil},
		{eighties + "01", upto(math.MaxInt), nil, api.ErrLimit},
		{ffs + "01", upto(math.MaxInt), nil, api.ErrLimit},
		{"020100", w32, nil, api.ErrShort},
		{"02010000", w32, uint32(258), nil},
		{"ffffffff", w32, uint32(math.MaxUint32), nil},
		{"02010000000000", w64, nil, api.ErrShort},
		{"0201000000000000", w64, uint64(258), nil},
		{"1032547698badcfe", w64, uint64(0xfedcba9876543210), nil},
	})
}

// P1.3
func TestReaderTexts(t *testing.T) {
	raw := func(n int) ask { return boundAsks(n)[1] }
	text := func(most int) ask { return boundAsks(most)[2] }
	checkRows(t, []row{
		{"", raw(-1), nil, api.ErrRange},
		{"0102", raw(math.MinInt), nil, api.ErrRange},
		{"", raw(0), "", nil},
		{"0102", raw(2), "\x01\x02", nil},
		{"0102", raw(3), nil, api.ErrShort},
		{"0102", raw(math.MaxInt), nil, api.ErrShort},
		{"", text(9), nil, api.ErrShort},
		{"8000", text(9), nil, api.ErrVarint},
		{"026162", text(2), "ab", nil},
		{"026162", text(1), nil, api.ErrLimit},
		{"0261", text(1), nil, api.ErrLimit},
		{"0261", text(2), nil, api.ErrShort},
		{"00", text(0), "", nil},
		{"00", text(-1), nil, api.ErrLimit},
		{"02ff00", text(2), "\xff\x00", nil},
		{"ffffffffffffffff7f61", text(math.MaxInt), nil, api.ErrShort},
	})
}

// P1.3
func TestReaderRising(t *testing.T) {
	list := func(most int) ask { return boundAsks(most)[3] }
	checkRows(t, []row{
		{"", list(9), nil, api.ErrShort},
		{"8000", list(9), nil, api.ErrVarint},
		{"00", list(-1), nil, api.ErrLimit},
		{"00", list(0), []int{}, nil},
		{"03030005", list(3), []int{3, 4, 10}, nil},
		{"03030005", list(2), nil, api.ErrLimit},
		{"030300", list(3), nil, api.ErrShort},
		{"0200ff00", list(9), nil, api.ErrVarint},
		{"01ffffffffffffffff7f", list(9), []int{math.MaxInt}, nil},
		{"0180808080808080808001", list(9), nil, api.ErrLimit},
		{"01ffffffffffffffffff01", list(9), nil, api.ErrLimit},
		{"02ffffffffffffffff7f00", list(9), nil, api.ErrLimit},
		{"02feffffffffffffff7f00", list(9), []int{math.MaxInt - 1, math.MaxInt}, nil},
		{"02feffffffffffffff7f01", list(9), nil, api.ErrLimit},
		{"0200feffffffffffffff7f", list(9), []int{0, math.MaxInt}, nil},
		{"0200ffffffffffffffff7f", list(9), nil, api.ErrLimit},
		{"0200ffffffffffffffffff01", list(9), nil, api.ErrLimit},
		{"0300ffffffffffffffffff01", list(9), nil, api.ErrLimit},
		{"0300ffffffffffffffff7f8000", list(9), nil, api.ErrLimit},
		{"ffffffffffffffff7f00", list(math.MaxInt), nil, api.ErrShort},
	})
}

// P1.3
func TestReaderPacked(t *testing.T) {
	list := func(most int) ask { return boundAsks(most)[4] }
	checkRows(t, []row{
		{"", list(9), nil, api.ErrShort},
		{"8000", list(9), nil, api.ErrVarint},
		{"00", list(-1), nil, api.ErrLimit},
		{"00", list(0), []int{}, nil},
		{"0503d158", list(5), []int{1, 2, 3, 4, 5}, nil},
		{"0503d158", list(4), nil, api.ErrLimit},
		{"05", list(5), nil, api.ErrShort},
		{"05", list(4), nil, api.ErrLimit},
		{"0503", list(5), nil, api.ErrShort},
		{"0503d1", list(5), nil, api.ErrShort},
		{"0503d1d8", list(5), nil, api.ErrOrder},
		{"020205", list(5), nil, api.ErrOrder},
		{"020109", list(5), nil, api.ErrOrder},
		{"020100", list(5), nil, api.ErrOrder},
		{"0540", list(5), nil, api.ErrLimit},
		{"05ff", list(5), nil, api.ErrLimit},
		{"0140ffffffffffffffff", list(5), nil, api.ErrLimit},
		{"0200", list(5), []int{0, 0}, nil},
		{"013fffffffffffffff7f", list(5), []int{math.MaxInt}, nil},
		{"013fffffffffffffffff", list(5), nil, api.ErrOrder},
		{"013fffffffffffffff3f", list(5), nil, api.ErrOrder},
		{"013fffffffffffff7f", list(5), nil, api.ErrShort},
		{"80800400", list(65536), make([]int, 65536), nil},
		{"81800400", list(math.MaxInt), nil, api.ErrLimit},
		{"81800401", list(math.MaxInt), nil, api.ErrShort},
		{"ffffffff0f01", list(math.MaxInt), nil, api.ErrShort},
		{"ffffffffffffffff7f00", list(math.MaxInt), nil, api.ErrLimit},
		{"ffffffffffffffff7f01ff", list(math.MaxInt), nil, api.ErrShort},
		{"ffffffffffffffff7f3fff", list(math.MaxInt), nil, api.ErrShort},
		// The number times the width is 2^64 here: no bytes at all, if it wrapped round.
		{"80808080808080804010", list(math.MaxInt), nil, api.ErrShort},
	})
}

// P1.3
func TestReaderMovesOn(t *testing.T) {
	r := codec.NewReader([]byte{0xac, 0x02, 7})
	if r.At() != 0 || r.Left() != 3 || r.Done() != api.ErrTail {
		t.Error("a new Reader", r.At(), r.Left(), r.Done())
	}
	if n, err := r.Upto(299); n != 0 || err != api.ErrLimit || r.At() != 0 {
		t.Error("Upto(299)", n, err, r.At())
	}
	if v, err := r.Uvarint(); v != 300 || err != nil || r.At() != 2 || r.Left() != 1 || r.Done() != api.ErrTail {
		t.Error("Uvarint", v, err, r.At(), r.Left(), r.Done())
	}
	if v, err := r.Word32(); v != 0 || err != api.ErrShort || r.At() != 2 {
		t.Error("Word32", v, err, r.At())
	}
	if b, err := r.Byte(); b != 7 || err != nil || r.At() != 3 || r.Left() != 0 || r.Done() != nil {
		t.Error("Byte", b, err, r.At(), r.Left(), r.Done())
	}
	if b, err := r.Byte(); b != 0 || err != api.ErrShort || r.At() != 3 {
		t.Error("Byte at the end", b, err, r.At())
	}
}

// P1.3: what the bytes merely claim costs no room.
func TestReaderMakesNoClaimedRoom(t *testing.T) {
	for _, claim := range []string{"808080800101ff", "ffffffffffffffff7f01ff"} {
		b, err := hex.DecodeString(claim)
		if err != nil {
			t.Fatal(err)
		}
		r := codec.NewReader(b)
		var before, after runtime.MemStats
		runtime.ReadMemStats(&before)
		_, err1 := r.Rising(math.MaxInt)
		_, err2 := r.Packed(math.MaxInt)
		_, err3 := r.Text(math.MaxInt)
		_, err4 := r.Raw(math.MaxInt)
		runtime.ReadMemStats(&after)
		if err1 != api.ErrShort || err2 != api.ErrShort || err3 != api.ErrShort || err4 != api.ErrShort || r.At() != 0 {
			t.Error(claim, err1, err2, err3, err4, r.At())
		}
		if used := after.TotalAlloc - before.TotalAlloc; used > 1<<20 {
			t.Errorf("refused calls over %s took %d bytes of memory", claim, used)
		}
	}
}

// P1.6
func TestReaderKeepsNothingHandedIn(t *testing.T) {
	room := []byte{2, 'a', 'b', 2, 3, 4, 1, 1, 1, 5, 0xdd, 0xdd}
	b := room[:10]
	before := slices.Clone(room)
	r := codec.NewReader(b)
	for i := range room {
		room[i] = 0x77
	}
	if s, err := r.Text(9); s != "ab" || err != nil {
		t.Error("Text", s, err)
	}
	if list, err := r.Rising(9); !slices.Equal(list, []int{3, 8}) || err != nil {
		t.Error("Rising", list, err)
	}
	if list, err := r.Packed(9); !slices.Equal(list, []int{1}) || err != nil {
		t.Error("Packed", list, err)
	}
	if b, err := r.Byte(); b != 5 || err != nil || r.Done() != nil {
		t.Error("Byte", b, err)
	}
	copy(room, before)
	r = codec.NewReader(b)
	for r.Left() > 0 {
		if _, err := r.Raw(1); err != nil {
			t.Fatal(err)
		}
	}
	if !bytes.Equal(room, before) {
		t.Error("a Reader writes into what was handed in", room)
	}
}

// P1.6
func TestReaderHandsOutNewMemory(t *testing.T) {
	b := []byte{1, 2, 3, 4, 5}
	r := codec.NewReader(b)
	first, err := r.Raw(2)
	if err != nil {
		t.Fatal(err)
	}
	none, err := r.Raw(0)
	if err != nil {
		t.Fatal(err)
	}
	first[0], first[1] = 77, 78
	_ = append(first, 79, 80)
	_ = append(none, 81, 82, 83)
	rest, err := r.Raw(3)
	if err != nil || !bytes.Equal(rest, []byte{3, 4, 5}) {
		t.Error("the Reader shows what was written into an answer", rest, err)
	}
	if !bytes.Equal(b, []byte{1, 2, 3, 4, 5}) {
		t.Error("what was handed in shows what was written into an answer", b)
	}
	if !bytes.Equal(first, []byte{77, 78}) {
		t.Error("two answers share memory", first)
	}
}

// P1.6
func TestReaderListsShareNothing(t *testing.T) {
	forms := []byte{2, 1, 1, 2, 1, 1, 2, 1, 3, 2, 1, 3}
	r := codec.NewReader(forms)
	var lists [][]int
	for i := range 4 {
		read := r.Rising
		if i >= 2 {
			read = r.Packed
		}
		list, err := read(9)
		if err != nil {
			t.Fatal(err)
		}
		for k := range list {
			list[k] += 100
		}
		_ = append(list, 9)
		lists = append(lists, list)
	}
	want := [][]int{{101, 103}, {101, 103}, {101, 101}, {101, 101}}
	if !reflect.DeepEqual(lists, want) || r.Done() != nil {
		t.Error("lists handed out", lists, r.Done())
	}
}
