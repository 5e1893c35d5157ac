package line_test

import (
	"bytes"
	"math"
	"math/big"
	"slices"
	"strings"
	"testing"

	"footbridge/line"
)

// over calls a function with all texts of at most so many bytes, each of which is one of some.
func over(signs string, most int, each func(string)) {
	texts := []string{""}
	for range most + 1 {
		var longer []string
		for _, s := range texts {
			each(s)
			for at := range len(signs) {
				longer = append(longer, s+signs[at:at+1])
			}
		}
		texts = longer
	}
}

// linesOf takes lines from the front, each as far as its line feed, as long as there are bytes.
func linesOf(b []byte) []string {
	var lines []string
	for len(b) > 0 {
		one, rest, _ := bytes.Cut(b, []byte("\n"))
		lines = append(lines, string(one))
		b = rest
	}
	return lines
}

// wordsOf are a line's words by the chapter's words on blanks alone: at an end, or two in a row, there is an empty one.
func wordsOf(s string) ([]string, bool) {
	if s == "" || strings.HasPrefix(s, " ") || strings.HasSuffix(s, " ") || strings.Contains(s, "  ") {
		return nil, false
	}
	return strings.Split(s, " "), true
}

// numberOf looks whether a text is the library's writing of a number of at most seven digits.
func numberOf(s string) (int, bool) {
	n, ok := new(big.Int).SetString(s, 10)
	if !ok || n.String() != s || n.Sign() < 0 || n.Cmp(big.NewInt(9999999)) > 0 {
		return 0, false
	}
	return int(n.Int64()), true
}

func checkLines(t *testing.T, s string) {
	t.Helper()
	b := []byte(s)
	got := line.Lines(b)
	if want := linesOf([]byte(s)); !slices.Equal(got, want) {
		t.Errorf("Lines(%q) = %q; want %q", s, got, want)
	}
	if string(b) != s {
		t.Errorf("Lines(%q) has changed its bytes: %q", s, b)
	}
}

func checkWords(t *testing.T, s string) {
	t.Helper()
	got, ok := line.Words(s)
	if want, may := wordsOf(s); ok != may || !slices.Equal(got, want) {
		t.Errorf("Words(%q) = %q, %v; want %q, %v", s, got, ok, want, may)
	}
}

func checkNumber(t *testing.T, s string) {
	t.Helper()
	got, ok := line.Number(s)
	if want, may := numberOf(s); got != want || ok != may {
		t.Errorf("Number(%q) = %d, %v; want %d, %v", s, got, ok, want, may)
	}
}

func checkDigits(t *testing.T, n int) {
	t.Helper()
	if got, want := line.Digits(n), big.NewInt(int64(n)).String(); got != want {
		t.Errorf("Digits(%d) = %q; want %q", n, got, want)
	}
}

// P6.1: lines, as the chapter lists them.
func TestLinesAsSaid(t *testing.T) {
	for _, c := range []struct {
		text  string
		lines []string
	}{
		{"", nil},
		{"\n", []string{""}},
		{"\n\n", []string{"", ""}},
		{"a", []string{"a"}},
		{"a\n", []string{"a"}},
		{"a\nb", []string{"a", "b"}},
		{"a\n\nb", []string{"a", "", "b"}},
		{"a\n\nb\n", []string{"a", "", "b"}},
		{"a\n\n", []string{"a", ""}},
		{"\na", []string{"", "a"}},
		{"a\r\nb\r", []string{"a\r", "b\r"}},
		{" a  b \n ", []string{" a  b ", " "}},
		{"\x00\v\f\u0085\u2028\n\xff\xc3", []string{"\x00\v\f\u0085\u2028", "\xff\xc3"}},
	} {
		if got := line.Lines([]byte(c.text)); !slices.Equal(got, c.lines) {
			t.Errorf("Lines(%q) = %q; want %q", c.text, got, c.lines)
		}
	}
	if got := line.Lines(nil); len(got) != 0 {
		t.Errorf("Lines(nil) = %q; want none", got)
	}
}

// P6.1: lines of all short texts, of each byte, and of a long text.
func TestLinesOfAll(t *testing.T) {
	over("\n a\r", 6, func(s string) { checkLines(t, s) })
	for x := range 256 {
		one := string([]byte{byte(x)})
		checkLines(t, one)
		checkLines(t, "a"+one+"b")
		checkLines(t, one+"\n"+one)
	}
	checkLines(t, strings.Repeat("one two\n\n", 20000)+"end")
}

// P6.1: words, as the chapter lists them.
func TestWordsAsSaid(t *testing.T) {
	for _, c := range []struct {
		text  string
		words []string
	}{
		{"a", []string{"a"}},
		{"a b", []string{"a", "b"}},
		{"ab c d", []string{"ab", "c", "d"}},
		{"a a a", []string{"a", "a", "a"}},
		{"a\tb c\n", []string{"a\tb", "c\n"}},
		{"\n", []string{"\n"}},
		{"\t \r", []string{"\t", "\r"}},
		{"a\u00a0b \xff", []string{"a\u00a0b", "\xff"}},
		{"", nil},
		{" ", nil},
		{"  ", nil},
		{" a", nil},
		{"a ", nil},
		{"a  b", nil},
		{"a b ", nil},
		{"a b  c", nil},
	} {
		if got, ok := line.Words(c.text); ok != (c.words != nil) || !slices.Equal(got, c.words) {
			t.Errorf("Words(%q) = %q, %v; want %q", c.text, got, ok, c.words)
		}
	}
}

// P6.1: words of all short texts, of each byte, and of a long line.
func TestWordsOfAll(t *testing.T) {
	over(" ab\n", 6, func(s string) { checkWords(t, s) })
	for x := range 256 {
		one := string([]byte{byte(x)})
		checkWords(t, one)
		checkWords(t, "a"+one+"b")
		checkWords(t, "a "+one+" b")
	}
	checkWords(t, strings.Repeat("one two ", 20000)+"end")
	checkWords(t, strings.Repeat("one two ", 20000))
}

// P6.1: numbers, as the chapter lists them.
func TestNumberAsSaid(t *testing.T) {
	for s, want := range map[string]int{"0": 0, "1": 1, "9": 9, "10": 10, "90": 90, "100": 100, "1234567": 1234567, "1000000": 1000000, "9999999": 9999999} {
		if got, ok := line.Number(s); got != want || !ok {
			t.Errorf("Number(%q) = %d, %v; want %d, true", s, got, ok, want)
		}
	}
	for _, s := range []string{
		"", "00", "07", "0000000", "0123456", "10000000", "12345678", "00000001", "-0", "-1", "+1", "1-", "1.0", "1e3", "1_0", "0x1", "0b1",
		" ", " 1", "1 ", "1 2", "1\n", "\x001", "a", "1a", "a1", "123456a", "/", ":", "1/", "1:", "٣", "1٣", "１", "\xff", "1\xb1",
		"18446744073709551616", "18446744073709551617", strings.Repeat("1", 100000),
	} {
		if got, ok := line.Number(s); got != 0 || ok {
			t.Errorf("Number(%.40q) = %d, %v; want 0, false", s, got, ok)
		}
	}
}

// P6.1: numbers of all short texts of digits and what is near them, and of each byte at each place.
func TestNumberOfAll(t *testing.T) {
	over("0159/:-+ ", 5, func(s string) { checkNumber(t, s) })
	over("019", 9, func(s string) { checkNumber(t, s) })
	for x := range 256 {
		for at := range 8 {
			s := []byte("1234567")
			s = slices.Insert(s, at, byte(x))
			checkNumber(t, string(s))
			checkNumber(t, string(s[:at+1]))
			if at < 7 {
				checkNumber(t, string(slices.Delete(s, at+1, at+2)))
			}
		}
	}
}

// P6.1: digits of any number, at and beside powers of two and of ten, and at the ends.
func TestDigitsOfAll(t *testing.T) {
	for n, want := range map[int]string{
		0: "0", 5: "5", -5: "-5", 10: "10", -10: "-10", 100: "100", 9999999: "9999999", 10000000: "10000000",
		math.MaxInt: "9223372036854775807", math.MinInt: "-9223372036854775808",
	} {
		if got := line.Digits(n); got != want {
			t.Errorf("Digits(%d) = %q; want %q", n, got, want)
		}
	}
	for by := -2; by <= 2; by++ {
		for bit := range 64 {
			checkDigits(t, 1<<bit+by)
			checkDigits(t, -(1<<bit)+by)
		}
		for n := 1; n < math.MaxInt/10; n *= 10 {
			checkDigits(t, 10*n+by)
			checkDigits(t, -10*n+by)
		}
	}
	for n := -20000; n <= 20000; n++ {
		checkDigits(t, n)
	}
}

// P6.2: digits of numbers that have at most seven are those numbers; of all others they are none.
func TestThereAndBack(t *testing.T) {
	for n := 0; n <= 9999999; n++ {
		if got, ok := line.Number(line.Digits(n)); got != n || !ok {
			t.Fatalf("Number(Digits(%d)) = %d, %v", n, got, ok)
		}
	}
	for _, n := range []int{-1, -9999999, 10000000, 10000001, 1 << 32, math.MinInt, math.MaxInt} {
		if got, ok := line.Number(line.Digits(n)); got != 0 || ok {
			t.Errorf("Number(Digits(%d)) = %d, %v; want 0, false", n, got, ok)
		}
	}
}

// P6.1, R3: what is answered doesn't hang on what becomes of the arguments, nor on other answers.
func TestNothingShared(t *testing.T) {
	b := []byte("ab\ncd\n")
	first, second := line.Lines(b), line.Lines(b)
	for at := range b {
		b[at] = 'x'
	}
	first[0] = "other"
	if want := []string{"ab", "cd"}; !slices.Equal(second, want) || first[1] != "cd" {
		t.Errorf("lines became %q and %q; want %q", first, second, want)
	}
	one, _ := line.Words("ab cd")
	two, _ := line.Words("ab cd")
	one[1] = "other"
	if want := []string{"ab", "cd"}; !slices.Equal(two, want) {
		t.Errorf("words became %q; want %q", two, want)
	}
}
