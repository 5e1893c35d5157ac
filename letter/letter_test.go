package letter_test

import (
	"bytes"
	"math"
	"slices"
	"strings"
	"testing"

	"footbridge/api"
	"footbridge/letter"
)

// letters are all bytes' letters, made as the chapter tells them: the same number, or the next one from 256 on.
func letters() [256]int {
	var all [256]int
	next := 256
	for b := range 256 {
		if 33 <= b && b <= 126 || 161 <= b && b <= 172 || 174 <= b {
			all[b] = b
		} else {
			all[b] = next
			next++
		}
	}
	return all
}

// writings are all bytes' letters as the library's UTF-8.
var writings = func() [256]string {
	var all [256]string
	for b, point := range letters() {
		all[b] = string(rune(point))
	}
	return all
}()

// written is bytes' letters, one by one.
func written(b []byte) string {
	var text strings.Builder
	for _, x := range b {
		text.WriteString(writings[x])
	}
	return text.String()
}

// readFrom takes letters from the front, one by one, as long as the text goes on with one of them.
func readFrom(s string) ([]byte, int) {
	var b []byte
	at := 0
	for at < len(s) {
		x := slices.IndexFunc(writings[:], func(one string) bool { return strings.HasPrefix(s[at:], one) })
		if x < 0 {
			break
		}
		b = append(b, byte(x))
		at += len(writings[x])
	}
	return b, at
}

// checkRead holds Read against letters taken from the front.
func checkRead(t *testing.T, s string) {
	t.Helper()
	b, n, ok := letter.Read(s)
	want, end := readFrom(s)
	if end < len(s) {
		if ok || len(b) != 0 || n != end {
			t.Errorf("Read(%q) = %v, %d, %v; want none, %d, false", s, b, n, ok, end)
		}
		return
	}
	if !ok || n != 0 || !bytes.Equal(b, want) {
		t.Errorf("Read(%q) = %v, %d, %v; want %v, 0, true", s, b, n, ok, want)
	}
}

// checkBack holds Write against the library, and Read against what was written.
func checkBack(t *testing.T, b []byte) {
	t.Helper()
	s := letter.Write(b)
	if want := written(b); s != want {
		t.Errorf("Write(%v) = %q; want %q", b, s, want)
	}
	back, n, ok := letter.Read(s)
	if !ok || n != 0 || !bytes.Equal(back, b) {
		t.Errorf("Read(Write(%v)) = %v, %d, %v", b, back, n, ok)
	}
}

// P4.1: the letter of every byte.
func TestOf(t *testing.T) {
	for b, want := range letters() {
		if got := letter.Of(byte(b)); got != want {
			t.Errorf("Of(%d) = %d; want %d", b, got, want)
		}
	}
	if got := letter.Of(32); got != 288 {
		t.Errorf("Of(32) = %d; want 288", got)
	}
}

// P4.1: the byte of every code point and of numbers that are none.
func TestByte(t *testing.T) {
	byteOf := map[int]byte{}
	for b, point := range letters() {
		byteOf[point] = byte(b)
	}
	for point := -1000; point <= api.MaxPoint+1000; point++ {
		want, is := byteOf[point]
		if b, ok := letter.Byte(point); b != want || ok != is {
			t.Errorf("Byte(%d) = %d, %v; want %d, %v", point, b, ok, want, is)
		}
	}
}

// P4.1: huge numbers are no letters, even where their lower bits are.
func TestByteOfHugeNumbers(t *testing.T) {
	huge := []int{math.MinInt, math.MinInt + 256, math.MaxInt, math.MaxInt - 255}
	for _, point := range letters() {
		huge = append(huge, point+1<<16, point+1<<32, point-1<<32, point+1<<40, point+math.MinInt, -point)
	}
	for _, point := range huge {
		if point == 0 {
			continue
		}
		if b, ok := letter.Byte(point); ok || b != 0 {
			t.Errorf("Byte(%d) = %d, %v; want 0, false", point, b, ok)
		}
	}
}

// P4.1: the chapter's examples.
func TestExamples(t *testing.T) {
	if s := letter.Write([]byte("a b")); s != "a\xc4\xa0b" {
		t.Errorf("Write(a b) = %q", s)
	}
	if b, n, ok := letter.Read("a b"); ok || n != 1 || len(b) != 0 {
		t.Errorf("Read(a b) = %v, %d, %v; want none, 1, false", b, n, ok)
	}
}

// P4.2: no bytes, every byte, every two bytes, and all bytes in a row.
func TestThereAndBack(t *testing.T) {
	checkBack(t, nil)
	checkBack(t, []byte{})
	var all []byte
	for x := range 256 {
		all = append(all, byte(x))
		checkBack(t, []byte{byte(x)})
		for y := range 256 {
			checkBack(t, []byte{byte(x), byte(y)})
		}
	}
	checkBack(t, all)
	checkBack(t, bytes.Repeat(all, 300))
}

// P4.2: a writing is of one row of bytes alone.
func TestOneWay(t *testing.T) {
	of := map[string]int{}
	for x := range 256 {
		of[letter.Write([]byte{byte(x)})]++
	}
	if len(of) != 256 {
		t.Errorf("%d writings of 256 bytes", len(of))
	}
}

// P4.1, P4.2: what is read is the writing of what it tells; all texts of up to two bytes.
func TestReadShortTexts(t *testing.T) {
	checkRead(t, "")
	for x := range 256 {
		checkRead(t, string([]byte{byte(x)}))
		for y := range 256 {
			s := string([]byte{byte(x), byte(y)})
			checkRead(t, s)
			if b, _, ok := letter.Read(s); ok && letter.Write(b) != s {
				t.Errorf("Write(Read(%q)) = %q", s, letter.Write(b))
			}
		}
	}
}

// P4.1: texts with what is no letter behind letters, at the ends of ranges, and bytes that are no UTF-8.
func TestReadWhatIsNone(t *testing.T) {
	ends := []string{" ", "\n", "\x00", "\x7f", "\u0080", "\u00a0", "\u00ad", "\u0144", "中", "\U0010ffff",
		"\x80", "\xbf", "\xff", "\xc4", "\xc3", "\xc0\xa1", "\xc1\xa1", "\xe0\x84\xa0", "\xf0\x80\x84\xa0", "\xed\xa0\x80", "\xc4\xc4\xa0", "\xc4a"}
	fronts := []string{"", "a", "ab", "Ġ", "aĠb", "ĀŃ", "\u00ac\u00ae", "!~", "\u00a1ÿ"}
	for _, front := range fronts {
		for _, end := range ends {
			s := front + end
			if b, n, ok := letter.Read(s); ok || n != len(front) || len(b) != 0 {
				t.Errorf("Read(%q) = %v, %d, %v; want none, %d, false", s, b, n, ok, len(front))
			}
			checkRead(t, s+"a")
			checkRead(t, s+"Ġ")
		}
	}
}

// P4.1: rows over letters of one and two bytes, first and other bytes of letters, and what is none.
func TestReadRows(t *testing.T) {
	parts := []string{"a", "\xc4", "\xa0", "\xc5", "\x83", "\x84", "\xc2", "\xad", " "}
	var each func(s string, n int)
	each = func(s string, n int) {
		checkRead(t, s)
		if n == 0 {
			return
		}
		for _, part := range parts {
			each(s+part, n-1)
		}
	}
	each("", 4)
}

// R3: what is handed in isn't changed or kept, and what is answered is new memory.
func TestMemory(t *testing.T) {
	b := []byte("a b\x00")
	s := letter.Write(b)
	if string(b) != "a b\x00" {
		t.Errorf("Write changed its bytes: %q", b)
	}
	clear(b)
	if s != "aĠbĀ" {
		t.Errorf("the writing changed with the bytes: %q", s)
	}
	one, _, _ := letter.Read(s)
	clear(one)
	two, n, ok := letter.Read(s)
	if string(two) != "a b\x00" || n != 0 || !ok {
		t.Errorf("Read behind a write into its answer = %q, %d, %v", two, n, ok)
	}
}
