package rank_test

import (
	std "encoding/base64"
	"fmt"
	"math"
	"regexp"
	"slices"
	"strconv"
	"strings"
	"testing"

	"footbridge/api"
	"footbridge/rank"
)

// form is a line of two words with one blank between them, the second one a number.
var form = regexp.MustCompile(`\A([^ \n]+) (0|[1-9][0-9]{0,6})\z`)

// lineOf is what the chapter's words say of a line, by the library's base64, which would skip line ends.
func lineOf(s string, ahead int) (api.Row, api.Errno) {
	parts := form.FindStringSubmatch(s)
	if parts == nil || strings.ContainsAny(s, "\r\n") {
		return api.Row{}, api.ErrForm
	}
	token, err := std.StdEncoding.Strict().DecodeString(parts[1])
	if err != nil {
		return api.Row{}, api.ErrForm
	}
	if len(token) > 64 || ahead >= 4096 {
		return api.Row{}, api.ErrLong
	}
	n, _ := strconv.Atoi(parts[2])
	return api.Row{Token: string(token), Rank: n}, api.OK
}

// fileOf takes lines from the front, as long as there are bytes, up to the first that is wrong.
func fileOf(s string) ([]api.Row, api.Fault) {
	var rows []api.Row
	for n := 1; s != ""; n++ {
		one, rest, _ := strings.Cut(s, "\n")
		row, err := lineOf(one, n-1)
		if err != api.OK {
			return nil, api.Fault{Line: n, Err: err}
		}
		rows = append(rows, row)
		s = rest
	}
	return rows, api.Fault{}
}

// show tells how many rows there are, and the first few of them.
func show(l []api.Row) string {
	text := strconv.Itoa(len(l)) + " rows"
	for _, row := range l[:min(len(l), 3)] {
		text += fmt.Sprintf(" %.40q %d", row.Token, row.Rank)
	}
	return text
}

func checkRead(t *testing.T, s string) {
	t.Helper()
	b := []byte(s)
	got, fault := rank.Read(b)
	if want, wrong := fileOf(s); fault != wrong || !slices.Equal(got, want) {
		t.Errorf("Read(%.60q) = %s, %v; want %s, %v", s, show(got), fault, show(want), wrong)
	}
	if string(b) != s {
		t.Errorf("Read(%.60q) has changed its bytes: %.60q", s, b)
	}
}

// checkFault holds a file's fault against the one that is written out.
func checkFault(t *testing.T, s string, want api.Fault) {
	t.Helper()
	if l, fault := rank.Read([]byte(s)); fault != want || len(l) != 0 {
		t.Errorf("Read(%.60q) = %s, %v; want none, %v", s, show(l), fault, want)
	}
	checkRead(t, s)
}

// checkBack holds a file against the library's writing of its rows, and what is read of it against these.
func checkBack(t *testing.T, l []api.Row) {
	t.Helper()
	var want strings.Builder
	for _, row := range l {
		want.WriteString(std.StdEncoding.EncodeToString([]byte(row.Token)) + " " + strconv.Itoa(row.Rank) + "\n")
	}
	b, ok := rank.Write(l)
	if !ok || string(b) != want.String() {
		t.Errorf("Write(%s) = %.60q, %v; want %.60q, true", show(l), b, ok, want.String())
	}
	if got, fault := rank.Read(b); fault != (api.Fault{}) || !slices.Equal(got, l) {
		t.Errorf("Read(%.60q) = %s, %v; want %s", b, show(got), fault, show(l))
	}
}

// bytesOf is a row of so many bytes, of all kinds.
func bytesOf(n, from int) string {
	b := make([]byte, n)
	for at := range b {
		b[at] = byte(from + 37*at)
	}
	return string(b)
}

// rowsOf are so many rows of many lengths, some of them twice.
func rowsOf(n int) []api.Row {
	var l []api.Row
	for at := range n {
		l = append(l, api.Row{Token: bytesOf(at%64+1, at/3), Rank: at * 7919 % 10000000})
	}
	return l
}

// P7.1: files, as the chapter lists them.
func TestReadAsSaid(t *testing.T) {
	for s, want := range map[string][]api.Row{
		"":                       nil,
		"IQ== 0\n":               {{Token: "!", Rank: 0}},
		"IQ== 0":                 {{Token: "!", Rank: 0}},
		"YWI= 9999999\n":         {{Token: "ab", Rank: 9999999}},
		"YWJj 10\nIQ== 5\n":      {{Token: "abc", Rank: 10}, {Token: "!", Rank: 5}},
		"IQ== 7\nIQ== 7\nIQ== 8": {{Token: "!", Rank: 7}, {Token: "!", Rank: 7}, {Token: "!", Rank: 8}},
		"AA== 1\n/w== 2\nCg== 3": {{Token: "\x00", Rank: 1}, {Token: "\xff", Rank: 2}, {Token: "\n", Rank: 3}},
		"0000 0\n":               {{Token: "\xd3\x4d\x34", Rank: 0}},
	} {
		if got, fault := rank.Read([]byte(s)); fault != (api.Fault{}) || !slices.Equal(got, want) {
			t.Errorf("Read(%q) = %s, %v; want %s", s, show(got), fault, show(want))
		}
		checkRead(t, s)
	}
	if l, fault := rank.Read(nil); len(l) != 0 || fault != (api.Fault{}) {
		t.Errorf("Read(nil) = %s, %v; want none", show(l), fault)
	}
}

// P7.1: a line that isn't two words, a base64 and a number.
func TestReadWrongForm(t *testing.T) {
	for _, s := range []string{
		"\n", " ", "IQ==", "IQ== ", " 0", "0", "IQ==  0", " IQ== 0", "IQ== 0 ", "IQ== 0 0", "IQ== 0 a", "IQ==\t0", "IQ==0", "0 IQ==",
		"IQ 0", "IQ= 0", "IQ=== 0", "IR== 0", "I 0", "IQ==IQ== 0", "I-__ 0", "! 0", "=IQ= 0", "IQ==\r 0", "IQ==\x00 0", "ÄÄ 0",
		"IQ== 00", "IQ== 07", "IQ== -1", "IQ== +1", "IQ== 10000000", "IQ== 00000001", "IQ== 1.0", "IQ== 1e3", "IQ== a", "IQ== 0x1", "IQ== 0\r\n", "IQ== ٣", "IQ== 18446744073709551616",
		"\xff", "\xff \xff", "\x00 0", "\xef\xbb\xbfIQ== 0",
	} {
		checkFault(t, s, api.Fault{Line: 1, Err: api.ErrForm})
		checkFault(t, "IQ== 1\n/w== 2\n"+s, api.Fault{Line: 3, Err: api.ErrForm})
		checkFault(t, "IQ== 1\n"+s+"\nIQ== 2\nx", api.Fault{Line: 2, Err: api.ErrForm})
	}
	// Behind the line feed at the end no line begins, but one behind it is an empty one.
	checkFault(t, "IQ== 0\n\n", api.Fault{Line: 2, Err: api.ErrForm})
}

// P7.1: tokens of 64 bytes may be, those of more are too long; but a wrong form comes first.
func TestReadLongTokens(t *testing.T) {
	for n := 1; n <= 200; n++ {
		text := std.StdEncoding.EncodeToString([]byte(bytesOf(n, n)))
		if n <= 64 {
			if l, fault := rank.Read([]byte(text + " 3")); fault != (api.Fault{}) || len(l) != 1 || l[0] != (api.Row{Token: bytesOf(n, n), Rank: 3}) {
				t.Errorf("of %d bytes: %s, %v", n, show(l), fault)
			}
			continue
		}
		checkFault(t, text+" 3", api.Fault{Line: 1, Err: api.ErrLong})
		checkFault(t, "IQ== 0\n"+text+" 3\nx\n", api.Fault{Line: 2, Err: api.ErrLong})
		checkFault(t, "x\n"+text+" 3\n", api.Fault{Line: 1, Err: api.ErrForm})
		for _, wrong := range []string{text, text + " 03", text + " 10000000", text + "  3", text + " 3 3", text + "A 3", "!" + text + " 3"} {
			checkFault(t, wrong, api.Fault{Line: 1, Err: api.ErrForm})
		}
	}
	checkFault(t, strings.Repeat("AAAA", 1<<18)+" 0", api.Fault{Line: 1, Err: api.ErrLong})
	checkFault(t, strings.Repeat("AAAA", 1<<18)+"= 0", api.Fault{Line: 1, Err: api.ErrForm})
}

// P7.1: 4096 lines may be; the next one is too many, or of a wrong form, which comes first.
func TestReadManyLines(t *testing.T) {
	full := strings.Repeat("IQ== 1\n", 4096)
	if l, fault := rank.Read([]byte(full)); fault != (api.Fault{}) || len(l) != 4096 {
		t.Errorf("%d rows, %v", len(l), fault)
	}
	if l, fault := rank.Read([]byte(full[:len(full)-1])); fault != (api.Fault{}) || len(l) != 4096 {
		t.Errorf("without the last line feed: %d rows, %v", len(l), fault)
	}
	long := strings.Repeat("AAAA", 22)
	for _, s := range []string{"IQ== 1", "IQ== 1\n", "IQ== 1\nx", strings.Repeat("IQ== 1\n", 100000), long + " 1\n"} {
		checkFault(t, full+s, api.Fault{Line: 4097, Err: api.ErrLong})
	}
	for _, s := range []string{"\n", "x", "IQ==", "IQ== 01\nIQ== 1\n", "IQ=  1", long + " 01"} {
		checkFault(t, full+s, api.Fault{Line: 4097, Err: api.ErrForm})
	}
	checkFault(t, full[:len(full)-7]+"x\nIQ== 1\n", api.Fault{Line: 4096, Err: api.ErrForm})
	checkFault(t, full[:len(full)-7]+long+" 1\nx\n", api.Fault{Line: 4096, Err: api.ErrLong})
	checkFault(t, "x\n"+full, api.Fault{Line: 1, Err: api.ErrForm})
}

// P7.1: all short rows of such parts as make lines right and wrong, and each byte at each place of a file.
func TestReadOfAll(t *testing.T) {
	var walk func(s string, left int)
	walk = func(s string, left int) {
		checkRead(t, s)
		for _, part := range []string{"IQ==", "AAAA", "A", "=", " ", "\n", "0", "7"} {
			if left > 0 {
				walk(s+part, left-1)
			}
		}
	}
	walk("", 5)
	walk("IQ== 1\nIQ==", 4)
	file := "IQ== 10\nYWI= 0\nYWJj 1234567\n"
	for at := range len(file) {
		for x := range 256 {
			checkRead(t, file[:at]+string([]byte{byte(x)})+file[at+1:])
			checkRead(t, file[:at]+string([]byte{byte(x)})+file[at:])
		}
		checkRead(t, file[:at]+file[at+1:])
		checkRead(t, file[:at])
		checkRead(t, file[at:])
	}
}

// P7.1: rows as a file.
func TestWriteAsSaid(t *testing.T) {
	for want, l := range map[string][]api.Row{
		"":                           {},
		"IQ== 0\n":                   {{Token: "!", Rank: 0}},
		"IQ== 0\nYWI= 9999999\n":     {{Token: "!", Rank: 0}, {Token: "ab", Rank: 9999999}},
		"/w== 30\n/w== 30\nCg== 2\n": {{Token: "\xff", Rank: 30}, {Token: "\xff", Rank: 30}, {Token: "\n", Rank: 2}},
	} {
		if b, ok := rank.Write(l); !ok || string(b) != want {
			t.Errorf("Write(%s) = %q, %v; want %q, true", show(l), b, ok, want)
		}
	}
	if b, ok := rank.Write(nil); !ok || len(b) != 0 {
		t.Errorf("Write(nil) = %q, %v; want none, true", b, ok)
	}
}

// P7.1: rows that may not be, wherever they stand.
func TestWriteWrongRows(t *testing.T) {
	good := api.Row{Token: "a", Rank: 1}
	for _, row := range []api.Row{
		{}, {Token: "", Rank: 5}, {Token: "a", Rank: -1}, {Token: "a", Rank: 10000000}, {Token: "a", Rank: math.MinInt}, {Token: "a", Rank: math.MaxInt}, {Token: "a", Rank: 1 << 32},
		{Token: strings.Repeat("a", 65), Rank: 0}, {Token: strings.Repeat("ä", 33), Rank: 0}, {Token: strings.Repeat("a", 1<<16), Rank: 0}, {Token: "", Rank: -1},
	} {
		for _, l := range [][]api.Row{{row}, {row, good, good}, {good, row, good}, {good, good, row}} {
			if b, ok := rank.Write(l); ok || len(b) != 0 {
				t.Errorf("Write(%s) = %.60q, %v; want none, false", show(l), b, ok)
			}
		}
	}
}

// P7.1: 4096 rows may be, more may not.
func TestWriteManyRows(t *testing.T) {
	for n, want := range map[int]bool{4095: true, 4096: true, 4097: false, 4098: false, 100000: false} {
		b, ok := rank.Write(slices.Repeat([]api.Row{{Token: "!", Rank: 1}}, n))
		if ok != want || want && string(b) != strings.Repeat("IQ== 1\n", n) || !want && len(b) != 0 {
			t.Errorf("of %d rows: %d bytes, %v; want %v", n, len(b), ok, want)
		}
	}
}

// P7.2: what is written is read as it was: tokens of each byte and of each length, ranks at their ends, many rows.
func TestThereAndBack(t *testing.T) {
	checkBack(t, nil)
	for x := range 256 {
		checkBack(t, []api.Row{{Token: string([]byte{byte(x)}), Rank: x}, {Token: string([]byte{'a', byte(x), byte(x)}), Rank: 9999999 - x}})
	}
	for n := 1; n <= 64; n++ {
		checkBack(t, []api.Row{{Token: bytesOf(n, n), Rank: n}})
		checkBack(t, []api.Row{{Token: strings.Repeat("\n", n), Rank: 0}, {Token: strings.Repeat(" ", n), Rank: 0}})
	}
	for n := 1; n < 10000000; n *= 10 {
		checkBack(t, []api.Row{{Token: "a", Rank: n - 1}, {Token: "a", Rank: n}, {Token: "b", Rank: 10*n - 1}})
	}
	for _, n := range []int{2, 100, 4095, 4096} {
		checkBack(t, rowsOf(n))
	}
}

// P7.2: and what is read is written as it was, but for the last line feed.
func TestBackAndThere(t *testing.T) {
	for _, s := range []string{"", "IQ== 0\n", "IQ== 0", "YWI= 17\nIQ== 0\nIQ== 0\n"} {
		l, _ := rank.Read([]byte(s))
		if b, ok := rank.Write(l); !ok || strings.TrimSuffix(string(b), "\n") != strings.TrimSuffix(s, "\n") {
			t.Errorf("%q became %q, %v", s, b, ok)
		}
	}
}

// P7.1, R3: what is handed in stays as it is, and plays no part later; what was answered is nobody else's.
func TestNothingShared(t *testing.T) {
	b := []byte("IQ== 0\nYWI= 17\n")
	want := []api.Row{{Token: "!", Rank: 0}, {Token: "ab", Rank: 17}}
	first, _ := rank.Read(b)
	second, _ := rank.Read(b)
	for at := range b {
		b[at] = 'x'
	}
	first[0] = api.Row{Token: "other", Rank: 1}
	if !slices.Equal(second, want) || first[1] != want[1] {
		t.Errorf("rows became %s and %s; want %s", show(first), show(second), show(want))
	}
	l := slices.Clone(want)
	one, _ := rank.Write(l)
	two, _ := rank.Write(l)
	if !slices.Equal(l, want) {
		t.Errorf("Write has changed its rows: %s", show(l))
	}
	l[0].Rank, one[0] = 5, 'x'
	if string(two) != "IQ== 0\nYWI= 17\n" || string(one[1:]) != string(two[1:]) {
		t.Errorf("files became %q and %q", one, two)
	}
}
