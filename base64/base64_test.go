package base64_test

import (
	"bytes"
	std "encoding/base64"
	"strings"
	"testing"

	"footbridge/base64"
)

const signs = "ABCDEFGHIJKLMNOPQRSTUVWXYZabcdefghijklmnopqrstuvwxyz0123456789+/"

// bitText is the text of bytes, made from their bits, written out as a row of zeros and ones.
func bitText(b []byte) string {
	var bits []int
	for _, x := range b {
		for i := 7; i >= 0; i-- {
			bits = append(bits, int(x>>i)&1)
		}
	}
	for len(bits)%6 != 0 {
		bits = append(bits, 0)
	}
	var text strings.Builder
	for i := 0; i < len(bits); i += 6 {
		n := 0
		for _, bit := range bits[i : i+6] {
			n = 2*n + bit
		}
		text.WriteByte(signs[n])
	}
	for text.Len()%4 != 0 {
		text.WriteByte('=')
	}
	return text.String()
}

// isText asks the library, which would skip line ends.
func isText(s string) bool {
	_, err := std.StdEncoding.Strict().DecodeString(s)
	return err == nil && !strings.ContainsAny(s, "\r\n")
}

// begins tells whether some text begins with s: whatever can still become one does so by one of these ends.
func begins(s string) bool {
	for _, end := range []string{"", "A", "AA", "AAA", "="} {
		if isText(s + end) {
			return true
		}
	}
	return false
}

// longest is how many signs the longest first part of s has with which some text begins.
func longest(s string) int {
	n := len(s)
	for !begins(s[:n]) {
		n--
	}
	return n
}

// checkDecode holds what Decode answers against the words: the library's bytes, or how far a text goes.
func checkDecode(t *testing.T, s string) {
	t.Helper()
	b, n, ok := base64.Decode(s)
	if !isText(s) {
		if want := longest(s); ok || len(b) != 0 || n != want {
			t.Errorf("Decode(%q) = %v, %d, %v; want none, %d, false", s, b, n, ok, want)
		}
		return
	}
	want, _ := std.StdEncoding.DecodeString(s)
	if !ok || n != 0 || !bytes.Equal(b, want) {
		t.Errorf("Decode(%q) = %v, %d, %v; want %v, 0, true", s, b, n, ok, want)
	}
}

// checkBack holds Encode against the bits, and Decode against the bytes.
func checkBack(t *testing.T, b []byte) {
	t.Helper()
	text := base64.Encode(b)
	if want := bitText(b); text != want {
		t.Errorf("Encode(%v) = %q; want %q", b, text, want)
	}
	if got, n, ok := base64.Decode(text); !ok || n != 0 || !bytes.Equal(got, b) {
		t.Errorf("Decode(%q) = %v, %d, %v; want %v, 0, true", text, got, n, ok, b)
	}
}

// P3.1: the chapter's examples, and those of the RFC.
func TestExamples(t *testing.T) {
	for b, want := range map[string]string{
		"\x00": "AA==", "": "", "f": "Zg==", "fo": "Zm8=", "foo": "Zm9v", "foob": "Zm9vYg==", "fooba": "Zm9vYmE=", "foobar": "Zm9vYmFy",
		"\xff": "/w==", "\xff\xff": "//8=", "\xff\xff\xff": "////", "\xfb\xef\xbe": "++++", "!": "IQ==",
	} {
		if got := base64.Encode([]byte(b)); got != want {
			t.Errorf("Encode(%q) = %q; want %q", b, got, want)
		}
		if got, n, ok := base64.Decode(want); !ok || n != 0 || string(got) != b {
			t.Errorf("Decode(%q) = %q, %d, %v; want %q, 0, true", want, got, n, ok, b)
		}
	}
	for s, want := range map[string]int{"AB==": 2, "AB=": 2, "AB": 2, "AAA": 3, "AA=": 3, "AAB=": 3, "AAC=": 3, "=": 0, "====": 0, "A===": 1} {
		if b, n, ok := base64.Decode(s); ok || n != want || len(b) != 0 {
			t.Errorf("Decode(%q) = %v, %d, %v; want none, %d, false", s, b, n, ok, want)
		}
	}
}

// P3.1, P3.2: all rows of one and two bytes, and such of three as have every sign at every place.
func TestShortRows(t *testing.T) {
	checkBack(t, nil)
	checkBack(t, []byte{})
	for x := range 256 {
		checkBack(t, []byte{byte(x)})
		for y := range 256 {
			checkBack(t, []byte{byte(x), byte(y)})
			checkBack(t, []byte{byte(x), byte(y), byte(x ^ 3*y)})
		}
	}
}

// P3.1, P3.2: rows of many lengths, and one that is very long.
func TestLongRows(t *testing.T) {
	row := make([]byte, 1<<20+1)
	for i := range row {
		row[i] = byte(i*i>>3 ^ i)
	}
	for n := range 300 {
		checkBack(t, row[n:2*n])
	}
	text := base64.Encode(row)
	if text != std.StdEncoding.EncodeToString(row) {
		t.Error("the text of a long row is another one")
	}
	if b, n, ok := base64.Decode(text); !ok || n != 0 || !bytes.Equal(b, row) {
		t.Error("a long row doesn't come back")
	}
	if b, n, ok := base64.Decode(text[:len(text)-1]); ok || n != len(text)-1 || len(b) != 0 {
		t.Error("a long text without its last sign:", len(b), n, ok)
	}
	if b, n, ok := base64.Decode(text + "A"); ok || n != len(text) || len(b) != 0 {
		t.Error("a long text with a sign more:", len(b), n, ok)
	}
}

// P3.1: every row of a few signs, of which some have no low bits, some have, and some are none, over more than a group.
func TestAllShortTexts(t *testing.T) {
	var walk func(s string, left int)
	walk = func(s string, left int) {
		checkDecode(t, s)
		for _, sign := range "AgEB/=- " {
			if left > 0 {
				walk(s+string(sign), left-1)
			}
		}
	}
	walk("", 5)
	for _, first := range []string{"AAAA", "AAA=", "AA==", "AA=A", "=AAA"} {
		walk(first, 3)
	}
}

// P3.1: every byte at every place of texts that end in each way.
func TestEveryByte(t *testing.T) {
	for _, text := range []string{"AAAA", "AAA=", "AA==", "//////==", "AAAAAAAA", "AAAAAAA=", "AA==AAAA", "AAA=AA==", "AAA", "AA", "A", "AA="} {
		for at := range len(text) {
			for x := range 256 {
				checkDecode(t, text[:at]+string([]byte{byte(x)})+text[at+1:])
				checkDecode(t, text[:at]+string([]byte{byte(x)})+text[at:])
			}
			checkDecode(t, text[:at]+text[at+1:])
		}
	}
}

// P3.1: what other readers of base64 let pass is the text of none.
func TestNothingElse(t *testing.T) {
	for s, want := range map[string]int{
		"\n": 0, " AAAA": 0, "AAAA\n": 4, "AAAA\r\n": 4, "AAAA\nAAAA": 4, "AA\nAA": 2, "AA==\n": 4, "AAA=\n": 4, "AA =": 2, "AA= =": 3, "AAAA ": 4,
		"AA-_": 2, "__": 0, "Zg": 2, "Zm8": 3, "\x00": 0, "AAA\x00": 3, "AA\x00\x00": 2, "AA=\x00": 3, "ÄÄ": 0, "AAAÄ": 3, "AA===": 4, "AAA==": 4, "AAAA=": 4, "AAAA====": 4,
	} {
		if b, n, ok := base64.Decode(s); ok || n != want || len(b) != 0 {
			t.Errorf("Decode(%q) = %v, %d, %v; want none, %d, false", s, b, n, ok, want)
		}
	}
}

// P3.2: of groups with one or two = just as many are texts as there are bytes for, and no two tell the same.
func TestOneWay(t *testing.T) {
	seen := map[string]string{}
	try := func(s string) {
		b, _, ok := base64.Decode(s)
		if !ok {
			return
		}
		if other, twice := seen[string(b)]; twice {
			t.Errorf("%q and %q are both the text of %v", other, s, b)
		}
		seen[string(b)] = s
	}
	for _, x := range signs {
		for _, y := range signs {
			try(string(x) + string(y) + "==")
			for _, z := range signs {
				try(string(x) + string(y) + string(z) + "=")
			}
		}
	}
	if want := 1<<8 + 1<<16; len(seen) != want {
		t.Errorf("%d texts; want %d", len(seen), want)
	}
}

// R3, R5: the bytes that are handed in stay as they are; what was answered is nobody else's.
func TestMemory(t *testing.T) {
	b := []byte("footbridge")
	text := base64.Encode(b[:5])
	if string(b) != "footbridge" {
		t.Errorf("Encode changed what it was given: %q", b)
	}
	b[0] = 'x'
	if text != "Zm9vdGI=" {
		t.Errorf("Encode kept what it was given: %q", text)
	}
	first, _, _ := base64.Decode(text)
	for i := range first {
		first[i] = 0
	}
	if again, _, _ := base64.Decode(text); string(again) != "footb" {
		t.Errorf("a later answer is %q", again)
	}
}
