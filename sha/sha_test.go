package sha

import (
	"bytes"
	"crypto/sha256"
	"encoding/hex"
	"strings"
	"testing"
)

// sample makes n bytes of all values in no plain order.
func sample(n int) []byte {
	b := make([]byte, n)
	x := uint32(n) + 1
	for i := range b {
		x = x*1664525 + 1013904223
		b[i] = byte(x >> 24)
	}
	return b
}

// theirs is the sum that the library of Go tells.
func theirs(b []byte) string {
	s := sha256.Sum256(b)
	return string(s[:])
}

// 1.1: sums that FIPS 180-4's examples and others name.
func TestSumKnown(t *testing.T) {
	cases := []struct{ text, want string }{
		{"", "e3b0c44298fc1c149afbf4c8996fb92427ae41e4649b934ca495991b7852b855"},
		{"abc", "ba7816bf8f01cfea414140de5dae2223b00361a396177a9cb410ff61f20015ad"},
		{"abcdbcdecdefdefgefghfghighijhijkijkljklmklmnlmnomnopnopq",
			"248d6a61d20638b8e5c026930c3e6039a33ce45964ff2167f6ecedd419db06c1"},
		{"abcdefghbcdefghicdefghijdefghijkefghijklfghijklmghijklmnhijklmnoijklmnopjklmnopqklmnopqrlmnopqrsmnopqrstnopqrstu",
			"cf5b16a778af8380036ce59e7b0492370b249b11e8f07a51afac45037afee9d1"},
		{strings.Repeat("a", 1000000), "cdc76e5c9914fb9281a1c7e284d73e67f1809a48a497200e046d39ccc7112cd0"},
	}
	for _, c := range cases {
		if got := Hex(Sum([]byte(c.text))); got != c.want {
			t.Errorf("Sum of %.20q: %s", c.text, got)
		}
	}
	if Sum(nil) != Sum([]byte{}) || Hex(Sum(nil)) != cases[0].want {
		t.Error("Sum of nil is not that of nothing")
	}
}

// 1.1: every length of the first blocks, so each way that padding can go.
func TestSumLengths(t *testing.T) {
	for n := 0; n <= 5*blockSize+1; n++ {
		for _, b := range [][]byte{sample(n), make([]byte, n), bytes.Repeat([]byte{0xff}, n)} {
			if got := Sum(b); got != theirs(b) || len(got) != 32 {
				t.Fatalf("Sum of %d bytes: %s", n, Hex(got))
			}
		}
	}
}

// 1.1: a length whose bits need more than 32 bits to be told.
func TestSumLong(t *testing.T) {
	part := sample(1 << 20)
	ours, other := New(), sha256.New()
	for i := 0; i < 513; i++ {
		ours.Write(part)
		other.Write(part)
	}
	if ours.Sum() != string(other.Sum(nil)) {
		t.Error("Sum of more than 2^29 bytes")
	}
}

// 1.1, 1.3: two parts, cut anywhere.
func TestTwoParts(t *testing.T) {
	for _, n := range []int{0, 1, 55, 56, 63, 64, 65, 119, 120, 127, 128, 129, 200} {
		b := sample(n)
		for cut := 0; cut <= n; cut++ {
			h := New()
			h.Write(b[:cut])
			h.Write(b[cut:])
			if h.Sum() != theirs(b) {
				t.Fatalf("%d bytes cut at %d", n, cut)
			}
		}
	}
}

// 1.1, 1.3: parts of one length each, with Sum asked for in between, twice.
func TestManyParts(t *testing.T) {
	b := sample(400)
	for step := 1; step <= 140; step++ {
		h := New()
		for at := 0; at < len(b); at += step {
			end := min(at+step, len(b))
			h.Write(b[at:end])
			want := theirs(b[:end])
			if h.Sum() != want || h.Sum() != want {
				t.Fatalf("parts of %d: Sum behind %d bytes", step, end)
			}
		}
	}
}

// 1.3: parts of many lengths, empty ones among them.
func TestUnevenParts(t *testing.T) {
	b := sample(3000)
	for seed := 0; seed < 50; seed++ {
		h := New()
		x := uint32(seed)
		for at := 0; at < len(b); {
			x = x*1664525 + 1013904223
			n := min(int(x>>24), len(b)-at)
			h.Write(b[at : at+n])
			h.Write(nil)
			h.Write([]byte{})
			at += n
		}
		if h.Sum() != theirs(b) {
			t.Fatalf("seed %d", seed)
		}
	}
}

// 1.1: nothing was written.
func TestNothingWritten(t *testing.T) {
	h := New()
	if h.Sum() != theirs(nil) {
		t.Error("Sum of a new one")
	}
	h.Write(nil)
	h.Write([]byte{})
	if h.Sum() != theirs(nil) {
		t.Error("Sum behind parts of nothing")
	}
	var plain Hash
	if plain.Sum() != theirs(nil) {
		t.Error("Sum of one that New did not make")
	}
	plain.Write([]byte("abc"))
	if plain.Sum() != theirs([]byte("abc")) {
		t.Error("Write to one that New did not make")
	}
}

// 1.1: methods of nil.
func TestNil(t *testing.T) {
	var h *Hash
	h.Write(nil)
	h.Write(sample(100))
	if got := h.Sum(); got != "" {
		t.Errorf("Sum of nil: %q", got)
	}
}

// R3: what is handed in is neither changed nor kept.
func TestHandedIn(t *testing.T) {
	for _, n := range []int{1, 63, 64, 65, 130} {
		b := sample(n)
		h := New()
		h.Write(b)
		Sum(b)
		if !bytes.Equal(b, sample(n)) {
			t.Fatalf("%d bytes were changed", n)
		}
		for i := range b {
			b[i] ^= 0xff
		}
		if h.Sum() != theirs(sample(n)) {
			t.Errorf("%d bytes were kept", n)
		}
	}
	roomy := append(make([]byte, 0, 200), sample(70)...)
	Sum(roomy)
	if !bytes.Equal(roomy[70:200], make([]byte, 130)) {
		t.Error("spare room was written to")
	}
}

// R5: two objects do not touch one another, nor does a copy.
func TestTwoObjects(t *testing.T) {
	first, second := New(), New()
	first.Write([]byte("first"))
	second.Write([]byte("second"))
	third := *first
	third.Write([]byte(" and third"))
	first.Write([]byte(" and last"))
	for h, want := range map[*Hash]string{first: "first and last", second: "second", &third: "first and third"} {
		if h.Sum() != theirs([]byte(want)) {
			t.Errorf("Sum of %q", want)
		}
	}
}

// 1.2: every byte, there and back.
func TestHex(t *testing.T) {
	if Hex("") != "" || Hex("\x00\x09\x0a\x0f\x10\x9f\xa0\xff") != "00090a0f109fa0ff" || Hex("ä") != "c3a4" {
		t.Error("Hex")
	}
	all := make([]byte, 256)
	for i := range all {
		all[i] = byte(i)
		want := hex.EncodeToString(all[:i+1])
		if got := Hex(string(all[:i+1])); got != want {
			t.Fatalf("Hex: %s", got)
		}
		if back, ok := Unhex(want); back != string(all[:i+1]) || !ok {
			t.Fatalf("Unhex(%s): %q, %v", want, back, ok)
		}
	}
	if back, ok := Unhex(""); back != "" || !ok {
		t.Error("Unhex of nothing")
	}
}

// 1.2: each pair of bytes is either the Hex of a byte or of none.
func TestUnhexPairs(t *testing.T) {
	bytesOf := map[string]string{}
	for i := 0; i < 256; i++ {
		bytesOf[Hex(string([]byte{byte(i)}))] = string([]byte{byte(i)})
	}
	if len(bytesOf) != 256 {
		t.Error("two bytes have one Hex")
	}
	for i := 0; i < 1<<16; i++ {
		pair := string([]byte{byte(i >> 8), byte(i)})
		want, may := bytesOf[pair]
		if got, ok := Unhex(pair); got != want || ok != may {
			t.Fatalf("Unhex(%q): %q, %v", pair, got, ok)
		}
	}
}

// 1.2: texts that are no Hex.
func TestUnhexWrong(t *testing.T) {
	wrong := []string{"0", "abc", "0g", "g0", "0F", "F0", "AB", "00 ", " 00", "0 0 ", "--", "0x00", "+1", "-1",
		"00zz", "zz00", "0a0A", "00\n", "00\x00", "é", "٠٠", "/0", "0:", "`0", "0@"}
	for _, s := range wrong {
		if back, ok := Unhex(s); ok || back != "" {
			t.Errorf("Unhex(%q): %q, %v", s, back, ok)
		}
	}
}

// 1.1, 1.2: the sum of what was summed, as digits, there and back.
func TestHexOfSum(t *testing.T) {
	for n := 0; n < 100; n++ {
		sum := Sum(sample(n))
		digits := Hex(sum)
		back, ok := Unhex(digits)
		if len(digits) != 64 || back != sum || !ok {
			t.Fatalf("%d bytes: %s", n, digits)
		}
	}
}

func BenchmarkSum(b *testing.B) {
	part := sample(1 << 16)
	b.SetBytes(int64(len(part)))
	for i := 0; i < b.N; i++ {
		Sum(part)
	}
}
