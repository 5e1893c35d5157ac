package merge_test

import (
	"fmt"
	"math"
	"regexp"
	"slices"
	"strconv"
	"strings"
	"testing"

	"footbridge/api"
	"footbridge/merge"
)

// letters are all bytes' letters, made as the chapter on them tells: the same number, or the next one from 256 on.
var letters = func() [256]string {
	var all [256]string
	next := rune(256)
	for b := range 256 {
		if 33 <= b && b <= 126 || 161 <= b && b <= 172 || 174 <= b {
			all[b] = string(rune(b))
			continue
		}
		all[b] = string(next)
		next++
	}
	return all
}()

// byteOf is each letter's byte.
var byteOf = func() map[string]byte {
	all := map[string]byte{}
	for b, one := range letters {
		all[one] = byte(b)
	}
	return all
}()

var (
	rowForm  = regexp.MustCompile(`\A([^ ]+) (0|[1-9][0-9]{0,6})\z`)
	pairForm = regexp.MustCompile(`\A([^ ]+) ([^ ]+)\z`)
)

// written is bytes' letters, one by one.
func written(s string) string {
	var text strings.Builder
	for at := range len(s) {
		text.WriteString(letters[s[at]])
	}
	return text.String()
}

// told are the bytes of a writing; a broken code point is no letter, though the library tells one of it.
func told(s string) (string, bool) {
	var b []byte
	for _, point := range s {
		x, ok := byteOf[string(point)]
		if !ok {
			return "", false
		}
		b = append(b, x)
	}
	return string(b), true
}

// linesOf takes lines from the front, each as far as its line feed, as long as there are bytes.
func linesOf(s string) []string {
	var lines []string
	for s != "" {
		one, rest, _ := strings.Cut(s, "\n")
		lines = append(lines, one)
		s = rest
	}
	return lines
}

// partsOf are a line's two parts, if it has a form; the second one is a writing too, if it is to be.
func partsOf(s string, form *regexp.Regexp, both bool) (string, string, bool) {
	parts := form.FindStringSubmatch(s)
	if parts == nil {
		return "", "", false
	}
	one, ok := told(parts[1])
	two := parts[2]
	if both && ok {
		two, ok = told(parts[2])
	}
	return one, two, ok
}

// fileOf says of a file what the chapter does: its first line, those ahead of merges, those behind, and then what is lacking.
func fileOf(s string) (api.Tables, api.Fault) {
	var tables api.Tables
	lines := linesOf(s)
	if len(lines) == 0 || lines[0] != "vocab" {
		return api.Tables{}, api.Fault{Line: 1, Err: api.ErrForm}
	}
	end := slices.Index(lines, "merges")
	for at := 1; at < len(lines); at++ {
		if at == end {
			continue
		}
		ahead := end < 0 || at < end
		form := pairForm
		if ahead {
			form = rowForm
		}
		one, two, ok := partsOf(lines[at], form, !ahead)
		if !ok {
			return api.Tables{}, api.Fault{Line: at + 1, Err: api.ErrForm}
		}
		if len(one) > 64 || !ahead && len(two) > 64 || ahead && at > 4096 || !ahead && at-end > 16384 {
			return api.Tables{}, api.Fault{Line: at + 1, Err: api.ErrLong}
		}
		if ahead {
			n, _ := strconv.Atoi(two)
			tables.Rows = append(tables.Rows, api.Row{Token: one, Rank: n})
		} else {
			tables.Pairs = append(tables.Pairs, api.Pair{Left: one, Right: two})
		}
	}
	if end < 0 {
		return api.Tables{}, api.Fault{Line: len(lines) + 1, Err: api.ErrForm}
	}
	return tables, api.Fault{}
}

func same(x, y api.Tables) bool {
	return slices.Equal(x.Rows, y.Rows) && slices.Equal(x.Pairs, y.Pairs)
}

func isNone(x api.Tables) bool {
	return len(x.Rows) == 0 && len(x.Pairs) == 0
}

// show tells how many rows and pairs there are, and the first few of them.
func show(x api.Tables) string {
	text := fmt.Sprintf("%d rows, %d pairs:", len(x.Rows), len(x.Pairs))
	for _, row := range x.Rows[:min(len(x.Rows), 3)] {
		text += fmt.Sprintf(" (%.40q %d)", row.Token, row.Rank)
	}
	for _, pair := range x.Pairs[:min(len(x.Pairs), 3)] {
		text += fmt.Sprintf(" (%.40q %.40q)", pair.Left, pair.Right)
	}
	return text
}

func checkRead(t *testing.T, s string) {
	t.Helper()
	b := []byte(s)
	got, fault := merge.Read(b)
	if want, wrong := fileOf(s); fault != wrong || !same(got, want) {
		t.Errorf("Read(%.60q) = %s, %v; want %s, %v", s, show(got), fault, show(want), wrong)
	}
	if string(b) != s {
		t.Errorf("Read(%.60q) has changed its bytes: %.60q", s, b)
	}
}

// checkFault holds a file's fault against the one that is written out.
func checkFault(t *testing.T, s string, line int, err api.Errno) {
	t.Helper()
	if x, fault := merge.Read([]byte(s)); fault != (api.Fault{Line: line, Err: err}) || !isNone(x) {
		t.Errorf("Read(%.60q) = %s, %v; want none, line %d, %v", s, show(x), fault, line, err)
	}
	checkRead(t, s)
}

func checkRefused(t *testing.T, x api.Tables) {
	t.Helper()
	if b, ok := merge.Write(x); ok || len(b) != 0 {
		t.Errorf("Write(%s) = %.60q, %v; want none, false", show(x), b, ok)
	}
}

// checkBack holds a file against the lines of its tables, and what is read of it against these.
func checkBack(t *testing.T, x api.Tables) {
	t.Helper()
	var want strings.Builder
	want.WriteString("vocab\n")
	for _, row := range x.Rows {
		want.WriteString(written(row.Token) + " " + strconv.Itoa(row.Rank) + "\n")
	}
	want.WriteString("merges\n")
	for _, pair := range x.Pairs {
		want.WriteString(written(pair.Left) + " " + written(pair.Right) + "\n")
	}
	b, ok := merge.Write(x)
	if !ok || string(b) != want.String() {
		t.Errorf("Write(%s) = %.60q, %v; want %.60q, true", show(x), b, ok, want.String())
	}
	if got, fault := merge.Read(b); fault != (api.Fault{}) || !same(got, x) {
		t.Errorf("Read(%.60q) = %s, %v; want %s", b, show(got), fault, show(x))
	}
}

// bytesOf is a row of so many bytes, of all kinds.
func bytesOf(n, from int) string {
	b := make([]byte, n)
	for at := range b {
		b[at] = byte(from + 37*at)
	}
	return string(b)
}

// tablesOf are so many rows and pairs of many lengths, some of them twice.
func tablesOf(rows, pairs int) api.Tables {
	var x api.Tables
	for at := range rows {
		x.Rows = append(x.Rows, api.Row{Token: bytesOf(at%64+1, at/3), Rank: at * 7919 % 10000000})
	}
	for at := range pairs {
		x.Pairs = append(x.Pairs, api.Pair{Left: bytesOf(at%64+1, at/5), Right: bytesOf(at%61+1, at/7)})
	}
	return x
}

// P8.1: files, as the chapter lists them.
func TestReadAsSaid(t *testing.T) {
	for s, want := range map[string]api.Tables{
		"vocab\nmerges":                {},
		"vocab\nmerges\n":              {},
		"vocab\na 0\nmerges\n":         {Rows: []api.Row{{Token: "a", Rank: 0}}},
		"vocab\nmerges\na b":           {Pairs: []api.Pair{{Left: "a", Right: "b"}}},
		"vocab\nmerges\n#version: 0.2": {Pairs: []api.Pair{{Left: "#version:", Right: "0.2"}}},
		"vocab\nĠ 7\nmerges\n":         {Rows: []api.Row{{Token: " ", Rank: 7}}},
		"vocab\nmerges\nĠ Ġa\n":        {Pairs: []api.Pair{{Left: " ", Right: " a"}}},
		"vocab\nmerges\nĊ Ā\n":         {Pairs: []api.Pair{{Left: "\n", Right: "\x00"}}},
		"vocab\nÿ 1\nŃ 2\nmerges":      {Rows: []api.Row{{Token: "\xff", Rank: 1}, {Token: "\xad", Rank: 2}}},
		"vocab\nb 9999999\na 5\na 5\na 6\nmerges\nb a\na b\na b\n": {
			Rows:  []api.Row{{Token: "b", Rank: 9999999}, {Token: "a", Rank: 5}, {Token: "a", Rank: 5}, {Token: "a", Rank: 6}},
			Pairs: []api.Pair{{Left: "b", Right: "a"}, {Left: "a", Right: "b"}, {Left: "a", Right: "b"}},
		},
		"vocab\n7 7\nmerges 0\nvocab 1\nmerges\nvocab vocab\nmerges merges\na 1\n": {
			Rows:  []api.Row{{Token: "7", Rank: 7}, {Token: "merges", Rank: 0}, {Token: "vocab", Rank: 1}},
			Pairs: []api.Pair{{Left: "vocab", Right: "vocab"}, {Left: "merges", Right: "merges"}, {Left: "a", Right: "1"}},
		},
	} {
		if got, fault := merge.Read([]byte(s)); fault != (api.Fault{}) || !same(got, want) {
			t.Errorf("Read(%q) = %s, %v; want %s", s, show(got), fault, show(want))
		}
		checkRead(t, s)
	}
}

// P8.1: a file whose first line isn't vocab, and files that lack a line.
func TestReadLackingLines(t *testing.T) {
	if x, fault := merge.Read(nil); fault != (api.Fault{Line: 1, Err: api.ErrForm}) || !isNone(x) {
		t.Errorf("Read(nil) = %s, %v; want none, line 1", show(x), fault)
	}
	checkFault(t, "", 1, api.ErrForm)
	for _, s := range []string{"\n", " ", "Vocab", "vocab ", " vocab", "vocab\r\n", "vocabs", "voca", "merges", "a 1", "vocab 1", "vocab vocab", "\xff", "\ufeffvocab", "\nvocab", "vocab\x00"} {
		checkFault(t, s, 1, api.ErrForm)
		checkFault(t, s+"\nvocab\nmerges\n", 1, api.ErrForm)
	}
	checkFault(t, "vocab", 2, api.ErrForm)
	checkFault(t, "vocab\n", 2, api.ErrForm)
	checkFault(t, "vocab\na 1", 3, api.ErrForm)
	checkFault(t, "vocab\na 1\n", 3, api.ErrForm)
	checkFault(t, "vocab\nmerges 1\nvocab 2\n", 4, api.ErrForm)
	checkFault(t, "vocab\n"+strings.Repeat("a 1\n", 4096), 4098, api.ErrForm)
}

// P8.1: a line ahead of merges that isn't a row's.
func TestReadWrongRows(t *testing.T) {
	for _, s := range []string{
		"", " ", "a", "a ", " 1", "1", "a  1", " a 1", "a 1 ", "a 1 1", "a 1 b", "a\t1", "a b", "vocab", "merges ", " merges", "Merges", "merges\r", "merges a", "merge",
		"a 00", "a 01", "a -1", "a +1", "a 10000000", "a 00000001", "a 1.0", "a 1e3", "a 0x1", "a 1\r", "a ٣", "a Ġ", "a 18446744073709551616",
		"\x7f 1", "\t 1", "\x00 1", "a\r 1", "\u00a0 1", "\u00ad 1", "\u0144 1", "中 1", "a\xff 1", "\xc4 1", "\xa0 1", "\xc4\xa0\xc4 1", "\xc1\xa1 1", "\xed\xa0\x80 1", "\xff \xff",
	} {
		checkFault(t, "vocab\n"+s+"\n", 2, api.ErrForm)
		checkFault(t, "vocab\n"+s+"\nmerges\n", 2, api.ErrForm)
		checkFault(t, "vocab\na 1\nb 2\n"+s+"\nmerges\na b\n", 4, api.ErrForm)
		checkFault(t, "vocab\na 1\n"+s+"\nx\nmerges\nx\n", 3, api.ErrForm)
	}
}

// P8.1: a line behind merges that isn't a pair's.
func TestReadWrongPairs(t *testing.T) {
	for _, s := range []string{
		"", " ", "a", "a ", " b", "a  b", " a b", "a b ", "a b c", "a\tb", "vocab", "merges", "merges ", "#version: 0.2 x",
		"\x7f a", "a \x7f", "\x7f \x7f", "a b\r", "\x00 a", "a \x00", "\u00a0 a", "a \u00ad", "\u0144 a", "a 中", "a\xff b", "a b\xff", "\xc4 a", "a \xc4", "\xc4 \xa0", "a \xc4\xa0\xc4", "\xc1\xa1 a",
	} {
		checkFault(t, "vocab\nmerges\n"+s+"\n", 3, api.ErrForm)
		checkFault(t, "vocab\na 1\nmerges\na b\nb a\n"+s+"\na b\n", 6, api.ErrForm)
		checkFault(t, "vocab\na 1\nb 2\nmerges\n"+s+"\nx\n", 5, api.ErrForm)
	}
}

// P8.1: writings of 64 bytes may be, those that tell more are too long; but a wrong form comes first.
func TestReadLongTokens(t *testing.T) {
	for n := 1; n <= 200; n++ {
		token := bytesOf(n, n)
		text := written(token)
		checkRead(t, "vocab\n"+text+" 3\nmerges\n"+text+" "+text)
		if n <= 64 {
			want := api.Tables{Rows: []api.Row{{Token: token, Rank: 3}}, Pairs: []api.Pair{{Left: token, Right: token}}}
			if x, fault := merge.Read([]byte("vocab\n" + text + " 3\nmerges\n" + text + " " + text)); fault != (api.Fault{}) || !same(x, want) {
				t.Errorf("of %d bytes: %s, %v", n, show(x), fault)
			}
			continue
		}
		checkFault(t, "vocab\n"+text+" 3", 2, api.ErrLong)
		checkFault(t, "vocab\na 1\n"+text+" 3\nx\nmerges\n", 3, api.ErrLong)
		checkFault(t, "vocab\nx\n"+text+" 3\n", 2, api.ErrForm)
		checkFault(t, "vocab\nmerges\n"+text+" a", 3, api.ErrLong)
		checkFault(t, "vocab\nmerges\na "+text, 3, api.ErrLong)
		checkFault(t, "vocab\nmerges\na b\n"+text+" "+text+"\nx\n", 4, api.ErrLong)
		for _, wrong := range []string{text, text + " 03", text + " 10000000", text + "  3", text + " 3 3", text + "\x7f 3", "\x7f" + text + " 3"} {
			checkFault(t, "vocab\n"+wrong, 2, api.ErrForm)
		}
		for _, wrong := range []string{text, text + " \x7f", "\x7f " + text, text + "  a", text + " a a", text + "\xc4 a", text + " " + text + "\x00"} {
			checkFault(t, "vocab\nmerges\n"+wrong, 3, api.ErrForm)
		}
	}
	checkFault(t, "vocab\n"+strings.Repeat("Ġ", 1<<18)+" 0", 2, api.ErrLong)
	checkFault(t, "vocab\nmerges\na "+strings.Repeat("a", 1<<18), 3, api.ErrLong)
}

// P8.1: 4096 rows may be; the next one is too many, or of a wrong form, which comes first.
func TestReadManyRows(t *testing.T) {
	full := "vocab\n" + strings.Repeat("a 1\n", 4096)
	for _, end := range []string{"merges", "merges\n", "merges\na b\n"} {
		if x, fault := merge.Read([]byte(full + end)); fault != (api.Fault{}) || len(x.Rows) != 4096 {
			t.Errorf("with %q: %s, %v", end, show(x), fault)
		}
		checkRead(t, full+end)
	}
	long := strings.Repeat("a", 65)
	for _, s := range []string{"a 1", "a 1\n", "a 1\nmerges\n", "merges 1\nmerges\n", "a 1\nx\n", strings.Repeat("a 1\n", 100000), long + " 1\nmerges\n"} {
		checkFault(t, full+s, 4098, api.ErrLong)
	}
	for _, s := range []string{"\n", "x\nmerges\n", "a 01\nmerges", "a b\n", long + " 01\n", "vocab\n"} {
		checkFault(t, full+s, 4098, api.ErrForm)
	}
	checkFault(t, full[:len(full)-4]+"x\na 1\nmerges\n", 4097, api.ErrForm)
	checkFault(t, full[:len(full)-4]+long+" 1\nx\n", 4097, api.ErrLong)
}

// P8.1: 16384 pairs may be, however many rows there are; the next one is too many, or of a wrong form, which comes first.
func TestReadManyPairs(t *testing.T) {
	long := strings.Repeat("a", 65)
	for _, rows := range []int{0, 1, 4096} {
		full := "vocab\n" + strings.Repeat("a 1\n", rows) + "merges\n" + strings.Repeat("a b\n", 16384)
		for _, s := range []string{full, full[:len(full)-1]} {
			if x, fault := merge.Read([]byte(s)); fault != (api.Fault{}) || len(x.Pairs) != 16384 || len(x.Rows) != rows {
				t.Errorf("with %d rows: %s, %v", rows, show(x), fault)
			}
			checkRead(t, s)
		}
		behind := rows + 16384 + 3
		for _, s := range []string{"a b", "a b\n", "a b\nx\n", "merges merges\n", long + " a\n", "a " + long} {
			checkFault(t, full+s, behind, api.ErrLong)
		}
		for _, s := range []string{"\n", "x", "merges\n", "a b c", long + " \x7f\n", "\x7f " + long} {
			checkFault(t, full+s, behind, api.ErrForm)
		}
		checkFault(t, full[:len(full)-4]+"x\na b\n", behind-1, api.ErrForm)
	}
}

// P8.1: all short rows of such parts as make lines right and wrong, and each byte at each place of a file.
func TestReadOfAll(t *testing.T) {
	parts := []string{"vocab", "merges", "\n", " ", "a", "0", "Ġ", "\xc4"}
	var walk func(s string, left int)
	walk = func(s string, left int) {
		checkRead(t, s)
		for _, part := range parts {
			if left > 0 {
				walk(s+part, left-1)
			}
		}
	}
	for _, front := range []string{"", "vocab\n", "vocab\na 0\n", "vocab\nmerges\n", "vocab\nmerges\na Ġ\n"} {
		walk(front, 5)
	}
	file := "vocab\na 10\nĠb 0\nĀ 1234567\nmerges\na Ġb\nĀ a\n"
	for at := range len(file) {
		for x := range 256 {
			checkRead(t, file[:at]+string([]byte{byte(x)})+file[at+1:])
			checkRead(t, file[:at]+string([]byte{byte(x)})+file[at:])
		}
		checkRead(t, file[:at]+file[at+1:])
		checkRead(t, file[:at])
		checkRead(t, file[at:])
	}
}

// P8.1: tables as a file.
func TestWriteAsSaid(t *testing.T) {
	for want, x := range map[string]api.Tables{
		"vocab\nmerges\n":                            {},
		"vocab\na 0\nmerges\n":                       {Rows: []api.Row{{Token: "a", Rank: 0}}},
		"vocab\nmerges\na b\n":                       {Pairs: []api.Pair{{Left: "a", Right: "b"}}},
		"vocab\nĊ 9999999\nĊ 5\nmerges\nĠ bĀ\nb Ġ\n": {Rows: []api.Row{{Token: "\n", Rank: 9999999}, {Token: "\n", Rank: 5}}, Pairs: []api.Pair{{Left: " ", Right: "b\x00"}, {Left: "b", Right: " "}}},
		"vocab\nmerges 1\nmerges\nmerges vocab\n":    {Rows: []api.Row{{Token: "merges", Rank: 1}}, Pairs: []api.Pair{{Left: "merges", Right: "vocab"}}},
	} {
		if b, ok := merge.Write(x); !ok || string(b) != want {
			t.Errorf("Write(%s) = %q, %v; want %q, true", show(x), b, ok, want)
		}
	}
	if b, ok := merge.Write(api.Tables{Rows: []api.Row{}, Pairs: []api.Pair{}}); !ok || string(b) != "vocab\nmerges\n" {
		t.Errorf("Write of empty lists = %q, %v", b, ok)
	}
}

// P8.1: rows and pairs that may not be, wherever they stand.
func TestWriteWrongTables(t *testing.T) {
	row, pair := api.Row{Token: "a", Rank: 1}, api.Pair{Left: "a", Right: "b"}
	long := strings.Repeat("a", 65)
	for _, wrong := range []api.Row{
		{}, {Token: "", Rank: 5}, {Token: "a", Rank: -1}, {Token: "a", Rank: 10000000}, {Token: "a", Rank: math.MinInt}, {Token: "a", Rank: math.MaxInt}, {Token: "a", Rank: 1 << 32},
		{Token: long, Rank: 0}, {Token: strings.Repeat("ä", 33), Rank: 0}, {Token: strings.Repeat("a", 1<<16), Rank: 0}, {Token: "", Rank: -1},
	} {
		for _, l := range [][]api.Row{{wrong}, {wrong, row, row}, {row, wrong, row}, {row, row, wrong}} {
			checkRefused(t, api.Tables{Rows: l})
			checkRefused(t, api.Tables{Rows: l, Pairs: []api.Pair{pair}})
		}
	}
	for _, wrong := range []api.Pair{
		{}, {Left: "a"}, {Right: "a"}, {Left: long, Right: "a"}, {Left: "a", Right: long}, {Left: long, Right: long}, {Left: long}, {Left: "a", Right: strings.Repeat("a", 1<<16)},
	} {
		for _, l := range [][]api.Pair{{wrong}, {wrong, pair, pair}, {pair, wrong, pair}, {pair, pair, wrong}} {
			checkRefused(t, api.Tables{Pairs: l})
			checkRefused(t, api.Tables{Rows: []api.Row{row}, Pairs: l})
		}
	}
}

// P8.1: 4096 rows and 16384 pairs may be, more may not.
func TestWriteManyLines(t *testing.T) {
	for _, c := range []struct {
		rows, pairs int
		may         bool
	}{
		{4095, 16383, true}, {4096, 16384, true}, {4096, 0, true}, {0, 16384, true},
		{4097, 0, false}, {4097, 16384, false}, {100000, 0, false}, {0, 16385, false}, {4096, 16385, false}, {0, 100000, false},
	} {
		x := api.Tables{Rows: slices.Repeat([]api.Row{{Token: "a", Rank: 1}}, c.rows), Pairs: slices.Repeat([]api.Pair{{Left: "a", Right: "b"}}, c.pairs)}
		if c.may {
			checkBack(t, x)
		} else {
			checkRefused(t, x)
		}
	}
}

// P8.2: what is written is read as it was: tokens and parts of each byte and of each length, ranks at their ends, many lines.
func TestThereAndBack(t *testing.T) {
	checkBack(t, api.Tables{})
	for x := range 256 {
		one := string([]byte{byte(x)})
		checkBack(t, api.Tables{
			Rows:  []api.Row{{Token: one, Rank: x}, {Token: "a" + one + one, Rank: 9999999 - x}},
			Pairs: []api.Pair{{Left: one, Right: "a"}, {Left: "a", Right: one}, {Left: one + "a", Right: one + one}},
		})
	}
	for n := 1; n <= 64; n++ {
		checkBack(t, api.Tables{
			Rows:  []api.Row{{Token: bytesOf(n, n), Rank: n}, {Token: strings.Repeat("\n", n), Rank: 0}},
			Pairs: []api.Pair{{Left: bytesOf(n, 1), Right: bytesOf(65-n, 2)}, {Left: strings.Repeat(" ", n), Right: strings.Repeat("\xff", n)}},
		})
	}
	for n := 1; n < 10000000; n *= 10 {
		checkBack(t, api.Tables{Rows: []api.Row{{Token: "a", Rank: n - 1}, {Token: "a", Rank: n}, {Token: "b", Rank: 10*n - 1}}})
	}
	for _, word := range []string{"vocab", "merges", "vocab\n", "merges\n", "\nmerges", "merges merges", "7"} {
		checkBack(t, api.Tables{Rows: []api.Row{{Token: word, Rank: 7}}, Pairs: []api.Pair{{Left: word, Right: word}}})
	}
	for _, n := range []int{2, 100, 4095, 4096} {
		checkBack(t, tablesOf(n, 4*n))
	}
}

// P8.2: and what is read is written as it was, but for the last line feed.
func TestBackAndThere(t *testing.T) {
	for _, s := range []string{"vocab\nmerges", "vocab\nmerges\n", "vocab\na 0\nmerges", "vocab\nmerges\na b", "vocab\nĠb 17\na 0\na 0\nmerges\na Ġb\na Ġb\n"} {
		x, _ := merge.Read([]byte(s))
		if b, ok := merge.Write(x); !ok || strings.TrimSuffix(string(b), "\n") != strings.TrimSuffix(s, "\n") {
			t.Errorf("%q became %q, %v", s, b, ok)
		}
	}
}

// P8.1, R3: what is handed in stays as it is, and plays no part later; what was answered is nobody else's.
func TestNothingShared(t *testing.T) {
	const file = "vocab\na 0\nĠb 17\nmerges\na Ġb\nb a\n"
	want := api.Tables{Rows: []api.Row{{Token: "a", Rank: 0}, {Token: " b", Rank: 17}}, Pairs: []api.Pair{{Left: "a", Right: " b"}, {Left: "b", Right: "a"}}}
	b := []byte(file)
	first, _ := merge.Read(b)
	second, _ := merge.Read(b)
	for at := range b {
		b[at] = 'x'
	}
	first.Rows[0], first.Pairs[0] = api.Row{Token: "other", Rank: 1}, api.Pair{Left: "other", Right: "one"}
	if !same(second, want) || first.Rows[1] != want.Rows[1] || first.Pairs[1] != want.Pairs[1] {
		t.Errorf("tables became %s and %s; want %s", show(first), show(second), show(want))
	}
	x := api.Tables{Rows: slices.Clone(want.Rows), Pairs: slices.Clone(want.Pairs)}
	one, _ := merge.Write(x)
	two, _ := merge.Write(x)
	if !same(x, want) {
		t.Errorf("Write has changed its tables: %s", show(x))
	}
	x.Rows[0].Rank, x.Pairs[0].Left, one[0] = 5, "x", 'x'
	if string(two) != file || string(one[1:]) != file[1:] {
		t.Errorf("files became %q and %q", one, two)
	}
}

// R5: a file that is wrong leaves no trace in what is read behind it.
func TestReadBehindAFault(t *testing.T) {
	for _, s := range []string{"", "vocab\na 1\nx\n", "vocab\na 1\nmerges\na b\nx\n"} {
		merge.Read([]byte(s))
		checkRead(t, "vocab\nb 2\nmerges\nb b\n")
		checkFault(t, "a 1\n", 1, api.ErrForm)
	}
}
