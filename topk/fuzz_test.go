package topk_test

import (
	"encoding/binary"
	"testing"

	"concord/api"
)

// hitsOf makes hits out of bytes: each takes two, near to 0 and to the ends of numbers.
func hitsOf(bytes []byte) []api.Hit {
	var out []api.Hit
	for ; len(bytes) >= 2; bytes = bytes[2:] {
		out = append(out, hit(int(int8(bytes[0]))<<(bytes[1]%2*56), uint64(int8(bytes[1])>>1)))
	}
	return out
}

// numberOf makes a k out of bytes, and answers the rest of them.
func numberOf(bytes []byte) (int, []byte) {
	if len(bytes) == 0 {
		return 0, nil
	}
	if bytes[0] == 255 && len(bytes) > 8 {
		return int(binary.LittleEndian.Uint64(bytes[1:])), bytes[9:]
	}
	return int(bytes[0]) - 2, bytes[1:]
}

// addBytes adds bytes to begin with.
func addBytes(f *testing.F) {
	for _, text := range []string{"", "\x02", "\x05\x05\x07\x04\x07\x06\x07\x09\x08\x04\x07", "\x03\x00\xff\x01\xff\x00\x00\x01\x00", "\xff\xff\xff\xff\xff\xff\xff\xff\x7fabcdefgh", "\xff\x00\x00\x00\x00\x00\x00\x00\x80abab", "\x04aaaaaaaaaabbbbbbbb"} {
		f.Add([]byte(text))
	}
}

// FuzzKeeper holds a keeper's calls against the model, between all offers.
func FuzzKeeper(f *testing.F) {
	addBytes(f)
	f.Fuzz(func(t *testing.T, bytes []byte) {
		if len(bytes) > 400 {
			return
		}
		k, rest := numberOf(bytes)
		holdOffers(t, k, hitsOf(rest))
	})
}

// FuzzLists holds Select, After and Join against the model, over hits that are cut to lists at every "/".
func FuzzLists(f *testing.F) {
	addBytes(f)
	f.Add([]byte("\x04abab/a/bb//bcab/"))
	f.Fuzz(func(t *testing.T, bytes []byte) {
		if len(bytes) > 2000 {
			return
		}
		k, rest := numberOf(bytes)
		var h api.Hit
		if len(rest) >= 2 {
			h = hitsOf(rest[:2])[0]
		}
		var lists [][]api.Hit
		from := 0
		for at, b := range rest {
			if b == '/' {
				lists = append(lists, hitsOf(rest[from:at]))
				from = at + 1
			}
		}
		holdLists(t, append(lists, hitsOf(rest[from:])), h, k)
	})
}
