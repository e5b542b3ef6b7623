package schema_test

import (
	"bytes"
	"encoding/hex"
	"math/rand"
	"strings"
	"testing"

	"concord/api"
	"concord/schema"
)

// holdDecode holds Decode against the model, and what it takes against Encode.
func holdDecode(t *testing.T, b []byte) {
	t.Helper()
	before := string(b)
	s, err := schema.Decode(b)
	want, wantErr := modelDecode(b)
	if !sameSchema(s, want) || err != wantErr {
		t.Fatalf("Decode(%x) = %v, %v, want %v, %v", b, s, err, want, wantErr)
	}
	if string(b) != before {
		t.Fatalf("Decode has changed %x to %x", before, b)
	}
	if err != nil {
		return
	}
	if again, err := schema.Encode(s); !bytes.Equal(again, b) || err != nil {
		t.Fatalf("Decode takes %x, and Encode of it is %x, %v", b, again, err)
	}
}

func unhex(s string) []byte {
	b, err := hex.DecodeString(strings.ReplaceAll(s, " ", ""))
	if err != nil {
		panic(err)
	}
	return b
}

// P4.3
func TestEncodeAndDecode(t *testing.T) {
	rows := []struct{ text, bytes string }{
		{"title:text,fold,stem;n:number", "02 05 74 69 74 6c 65 15 01 6e 03"},
		{"a:text", "01 01 61 01"},
		{"a:keyword", "01 01 61 02"},
		{"a:number", "01 01 61 03"},
		{"a:text,fold", "01 01 61 05"},
		{"a:text,stop", "01 01 61 09"},
		{"a:text,stem", "01 01 61 11"},
		{"a:text,fold,stop", "01 01 61 0d"},
		{"a:text,stop,stem", "01 01 61 19"},
		{"a:text,fold,stop,stem", "01 01 61 1d"},
		{"b:number;a:text;ab:keyword", "03 01 62 03 01 61 01 02 61 62 02"},
		{strings.Repeat("a", 32) + ":text", "01 20" + strings.Repeat("61", 32) + "01"},
	}
	for _, x := range rows {
		s, err := modelParse(x.text)
		if err != nil {
			t.Fatal(x.text, err)
		}
		if b, err := schema.Encode(s); !bytes.Equal(b, unhex(x.bytes)) || err != nil {
			t.Errorf("Encode(%s) = %x, %v, want %s", x.text, b, err, x.bytes)
		}
		if back, err := schema.Decode(unhex(x.bytes)); !sameSchema(back, s) || err != nil {
			t.Errorf("Decode(%s) = %v, %v, want %s", x.bytes, back, err, x.text)
		}
		holdDecode(t, unhex(x.bytes))
	}
}

// P4.3: the Reader's own errors in the order of reading, then ErrSchema.
func TestDecodeRefuses(t *testing.T) {
	long := strings.Repeat("61", 33)
	rows := []struct {
		bytes string
		want  error
	}{
		// the number of fields
		{"", api.ErrShort},
		{"80", api.ErrShort},
		{"8000", api.ErrVarint},
		{"8100 0161 01", api.ErrVarint},
		{"ffffffffffffffffff02", api.ErrVarint},
		{"ffffffffffffffffff01", api.ErrLimit},
		{"11", api.ErrLimit},
		{"11 0161 01", api.ErrLimit},
		{"8002", api.ErrLimit},
		{"00", api.ErrSchema},
		{"00 00", api.ErrTail},
		{"00 0161 01", api.ErrTail},
		// a name
		{"01", api.ErrShort},
		{"01 80", api.ErrShort},
		{"01 8000", api.ErrVarint},
		{"01 21", api.ErrLimit},
		{"01 21" + long + "01", api.ErrLimit},
		{"01 8002", api.ErrLimit},
		{"01 02 61", api.ErrShort},
		{"01 20 61", api.ErrShort},
		{"01 00 01", api.ErrSchema},
		{"01 01 41 01", api.ErrSchema},
		{"01 01 5f 01", api.ErrSchema},
		{"01 02 6120 01", api.ErrSchema},
		{"01 02 61ff 01", api.ErrSchema},
		// a byte
		{"01 01 61", api.ErrShort},
		{"01 01 61 00", api.ErrSchema},
		{"01 01 61 04", api.ErrSchema},
		{"01 01 61 1c", api.ErrSchema},
		{"01 01 61 06", api.ErrSchema},
		{"01 01 61 0a", api.ErrSchema},
		{"01 01 61 12", api.ErrSchema},
		{"01 01 61 07", api.ErrSchema},
		{"01 01 61 1f", api.ErrSchema},
		{"01 01 61 20", api.ErrSchema},
		{"01 01 61 21", api.ErrSchema},
		{"01 01 61 41", api.ErrSchema},
		{"01 01 61 81", api.ErrSchema},
		{"01 01 61 fd", api.ErrSchema},
		// what stands behind a field comes ahead of what is wrong with it
		{"01 01 61 01 00", api.ErrTail},
		{"01 01 61 21 00", api.ErrTail},
		{"01 00 00 00", api.ErrTail},
		{"01 01 41 01 01", api.ErrTail},
		{"02 01 61 21", api.ErrShort},
		{"02 00 00 8000", api.ErrVarint},
		{"02 01 61 04 21", api.ErrLimit},
		{"02 01 61 01 01 61", api.ErrShort},
		{"02 01 61 01 01 61 01 00", api.ErrTail},
		// fields beside one another
		{"02 01 61 01 01 61 01", api.ErrSchema},
		{"02 01 61 01 01 61 02", api.ErrSchema},
		{"02 01 61 01 01 62 21", api.ErrSchema},
		{"02 01 61 21 01 62 01", api.ErrSchema},
		{"03 01 61 01 01 62 01 01 61 01", api.ErrSchema},
	}
	for _, x := range rows {
		if s, err := schema.Decode(unhex(x.bytes)); len(s.Fields) != 0 || err != x.want {
			t.Errorf("Decode(%s) = %v, %v, want %v", x.bytes, s, err, x.want)
		}
		holdDecode(t, unhex(x.bytes))
	}
	if s, err := schema.Decode(nil); len(s.Fields) != 0 || err != api.ErrShort {
		t.Errorf("Decode(nil) = %v, %v", s, err)
	}
}

// P4.3: every byte of a lone field, and beside a good one on either side.
func TestDecodeEveryByte(t *testing.T) {
	for c := range 256 {
		last := byte(c)
		holdDecode(t, []byte{1, 1, 'a', last})
		holdDecode(t, []byte{2, 1, 'a', last, 1, 'b', 1})
		holdDecode(t, []byte{2, 1, 'b', 1, 1, 'a', last})
		holdDecode(t, []byte{last})
		holdDecode(t, []byte{last, 1, 'a', 1})
		holdDecode(t, []byte{1, last, 'a', 1})
		holdDecode(t, []byte{1, 1, last, 1})
		holdDecode(t, []byte{1, 2, 'a', last, 1})
	}
}

// P4.3: 0 to 17 fields and beyond, and names of 0 to 33 bytes and beyond.
func TestDecodeLimits(t *testing.T) {
	for n := range 130 {
		b := []byte{byte(min(n, 127))}
		for i := range min(n, 127) {
			b = append(b, 2, 'a'+byte(i%26), 'a'+byte(i/26), 1+byte(i%3))
		}
		_, err := schema.Decode(b)
		if n == 0 && err != api.ErrSchema || 1 <= n && n <= 16 && err != nil || n > 16 && err != api.ErrLimit {
			t.Errorf("Decode of %d fields: %v", n, err)
		}
		holdDecode(t, b)
		b = append([]byte{1, byte(min(n, 127))}, strings.Repeat("a", min(n, 127))+"\x02"...)
		_, err = schema.Decode(b)
		if n == 0 && err != api.ErrSchema || 1 <= n && n <= 32 && err != nil || n > 32 && err != api.ErrLimit {
			t.Errorf("Decode of a name of %d bytes: %v", n, err)
		}
		holdDecode(t, b)
	}
}

// P4.3: all short rows of the bytes that tell most.
func TestDecodeAllShortBytes(t *testing.T) {
	pieces := []byte{0, 1, 2, 3, 4, 5, 0x1d, 0x21, 'a', 0x80}
	var row func(b []byte, left int)
	row = func(b []byte, left int) {
		holdDecode(t, b)
		if left == 0 {
			return
		}
		for _, c := range pieces {
			row(append(b[:len(b):len(b)], c), left-1)
		}
	}
	row(nil, 5)
	row([]byte{2, 1, 'b', 1}, 4)
}

// P4.3
func TestDecodeOfEncode(t *testing.T) {
	dice := rand.New(rand.NewSource(44))
	for range 20000 {
		s := someGood(dice)
		b, err := schema.Encode(s)
		if err != nil {
			t.Fatalf("Encode(%v): %v", s, err)
		}
		back, err := schema.Decode(b)
		if err != nil || !sameSchema(back, s) {
			t.Fatalf("Decode(Encode(%v)) = %v, %v", s, back, err)
		}
	}
}

// P4.3: good bytes with one byte changed, left out, put in, cut off or put behind.
func TestDecodeSpoiltBytes(t *testing.T) {
	dice := rand.New(rand.NewSource(46))
	for range 6 {
		b, _ := modelEncode(someGood(dice))
		for at := 0; at <= len(b); at++ {
			holdDecode(t, b[:at])
			holdDecode(t, b[at:])
			for c := range 256 {
				longer := append(append(append([]byte{}, b[:at]...), byte(c)), b[at:]...)
				holdDecode(t, longer)
				if at < len(b) {
					spoilt := append([]byte{}, b...)
					spoilt[at] = byte(c)
					holdDecode(t, spoilt)
				}
			}
			if at < len(b) {
				holdDecode(t, append(append([]byte{}, b[:at]...), b[at+1:]...))
			}
		}
		for n := range 300 {
			if _, err := schema.Decode(append(b[:len(b):len(b)], make([]byte, n+1)...)); err != api.ErrTail {
				t.Fatalf("Decode of %x with %d bytes behind it: %v", b, n+1, err)
			}
		}
	}
	// Schemas that aren't good, in bytes.
	for range 20000 {
		s := someSpoilt(dice)
		b := []byte{byte(len(s.Fields))}
		for _, f := range s.Fields {
			b = append(b, byte(len(f.Name)))
			b = append(b, f.Name...)
			b = append(b, byte(f.Kind+4*dice.Intn(9)))
		}
		holdDecode(t, b)
	}
}

// Rule 5: what is handed in isn't kept or written, and no answer shares memory with another.
func TestBytesShareNothing(t *testing.T) {
	room := append(unhex("02 05 74 69 74 6c 65 15 01 6e 03"), 9, 9, 9, 9)
	b := room[:11]
	want, _ := modelDecode(b)
	one, err := schema.Decode(b)
	if err != nil || string(room[11:]) != "\x09\x09\x09\x09" {
		t.Fatal(err, room)
	}
	two, _ := schema.Decode(b)
	for i := range room {
		room[i] = 'x'
	}
	if !sameSchema(one, want) {
		t.Errorf("an answer of Decode shows what was written later into its bytes: %v", one)
	}
	one.Fields[0] = api.Field{}
	_ = append(one.Fields[:1], api.Field{Name: "y"})
	_ = append(one.Fields, api.Field{Name: "y"})
	if !sameSchema(two, want) {
		t.Errorf("an answer of Decode shows what was written into another: %v", two)
	}
	first, _ := schema.Encode(want)
	second, _ := schema.Encode(want)
	first[0] = 99
	_ = append(first[:2], 98, 97)
	_ = append(first, 96)
	if third, _ := schema.Encode(want); string(second) != "\x02\x05title\x15\x01n\x03" || string(third) != string(second) {
		t.Errorf("answers of Encode share memory: %x, %x", second, third)
	}
}

func FuzzDecode(f *testing.F) {
	f.Add(unhex("02 05 74 69 74 6c 65 15 01 6e 03"))
	f.Add(unhex("01 01 61 04"))
	f.Add(unhex("10 01"))
	f.Fuzz(func(t *testing.T, b []byte) {
		holdDecode(t, b)
	})
}
