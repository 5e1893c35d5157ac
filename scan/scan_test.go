package scan_test

import (
	"fmt"
	"math"
	"math/rand"
	"regexp"
	"slices"
	"strings"
	"testing"

	"footbridge/api"
	"footbridge/class"
	"footbridge/scan"
	"footbridge/utf"
)

// noPoint stands for a byte of none in texts that are held against patterns; no table here has a range with it.
const noPoint = '\uf8ff'

// words are the chapter's words for a kind and a table: a pattern for each sort of piece, in their order, and its reach.
type words struct {
	kind  int
	sorts *regexp.Regexp // each is a group that has a name
	gap   *regexp.Regexp // the spaces in a row at the front
}

// signsOf is a pattern for a point of one of these classes.
func signsOf(t []api.Range, classes ...int) string {
	var in, out strings.Builder
	for _, r := range t {
		fmt.Fprintf(&out, `\x{%x}-\x{%x}`, r.Lo, r.Hi)
		if slices.Contains(classes, r.Class) {
			fmt.Fprintf(&in, `\x{%x}-\x{%x}`, r.Lo, r.Hi)
		}
	}
	var of []string
	if in.Len() > 0 {
		of = append(of, "["+in.String()+"]")
	}
	if slices.Contains(classes, api.Other) {
		if out.Len() == 0 {
			return `(?s:.)`
		}
		of = append(of, "[^"+out.String()+"]")
	}
	if len(of) == 0 {
		return `[^\x{0}-\x{10ffff}]` // no point at all
	}
	return "(?:" + strings.Join(of, "|") + ")"
}

func readWords(kind int, t []api.Range) words {
	letter, number, other, line := signsOf(t, api.Letter), signsOf(t, api.Number), signsOf(t, api.Other), signsOf(t, api.Line)
	space := signsOf(t, api.Space, api.Line)
	sorts := map[int]string{
		api.None:  `(?P<all>(?s:.)+)`,
		api.Blank: `(?P<word>` + space + `*` + signsOf(t, api.Other, api.Letter, api.Number) + `*)`,
		api.Plain: `(?P<ending>'(?:s|t|m|d|re|ve|ll))|(?P<letters> ?` + letter + `+)|(?P<numbers> ?` + number + `+)|(?P<others> ?` + other + `+)|(?P<spaces>` + space + `+)`,
		api.Wide: `(?P<ending>'(?:[sS]|[tT]|[mM]|[dD]|[rR][eE]|[vV][eE]|[lL][lL]))|(?P<letters>` + signsOf(t, api.Other, api.Space) + `?` + letter + `+)|` +
			`(?P<three>` + number + `{3})|(?P<numbers>` + number + `{1,2})|(?P<others> ?` + other + `+` + line + `*)|(?P<lines>` + space + `*` + line + `)|(?P<spaces>` + space + `+)`,
	}
	return words{kind: kind, sorts: regexp.MustCompile(`^(?:` + sorts[kind] + `)`), gap: regexp.MustCompile(`^` + space + `*`)}
}

// signs are bytes' points as a text.
func signs(b []byte) string {
	var s []rune
	for _, point := range utf.Points(b) {
		if point < 0 {
			point = noPoint
		}
		s = append(s, rune(point))
	}
	return string(s)
}

// count is how many points a text of them has.
func count(s string) int { return len([]rune(s)) }

// front is the first piece, and its reach.
func (w words) front(s string) (string, int) {
	at := w.sorts.FindStringSubmatchIndex(s)
	sort := ""
	for n, name := range w.sorts.SubexpNames() {
		if name != "" && at[2*n] >= 0 {
			sort = name
		}
	}
	piece, gap := s[:at[1]], count(w.gap.FindString(s))
	switch sort {
	case "ending", "three":
		return piece, count(piece)
	case "lines":
		return piece, gap + 1
	case "spaces":
		if gap >= 2 && len(piece) < len(s) {
			last := []rune(piece)
			piece = string(last[:len(last)-1])
		}
		return piece, gap + 1
	}
	return piece, count(piece) + 1
}

func (w words) next(b []byte, final bool) (int, bool) {
	piece, reach := w.front(signs(b))
	n := 0
	for _, sign := range piece {
		if sign == noPoint {
			n++
		} else {
			n += len(string(sign))
		}
	}
	head := signs(b[:len(b)-utf.Rest(b)])
	decided := reach <= count(head)
	switch w.kind {
	case api.None:
		decided = false
	case api.Plain:
		decided = decided && !slices.Contains([]string{"'", "'r", "'v", "'l"}, head)
	case api.Wide:
		decided = decided && !slices.Contains([]string{"'", "'r", "'v", "'l", "'R", "'V", "'L"}, head)
	}
	return n, decided || final
}

var kinds = []int{api.None, api.Blank, api.Plain, api.Wide}

// tables are those of which calls are asked here: the usual one, an empty one, and such where blanks, apostrophes, and letters of endings are of other classes than usual.
func tables() [][]api.Range {
	l := [][]api.Range{class.Usual(), nil}
	for blank := api.Other; blank <= api.Line; blank++ {
		for apostrophe := api.Other; apostrophe <= api.Line; apostrophe++ {
			var t []api.Range
			for _, r := range []api.Range{
				{Lo: '\n', Hi: '\n', Class: api.Line}, {Lo: ' ', Hi: ' ', Class: blank}, {Lo: '\'', Hi: '\'', Class: apostrophe},
				{Lo: '0', Hi: '9', Class: api.Number}, {Lo: 'L', Hi: 'L', Class: api.Space}, {Lo: 'a', Hi: 'r', Class: api.Letter},
				{Lo: 's', Hi: 's', Class: api.Number}, {Lo: 'v', Hi: 'v', Class: api.Line},
			} {
				if r.Class != api.Other {
					t = append(t, r)
				}
			}
			l = append(l, t)
		}
	}
	return l
}

// rows hands out all rows of at most so many of these units.
func rows(units []string, most int, yield func([]byte)) {
	var add func(b []byte, n int)
	add = func(b []byte, n int) {
		if len(b) > 0 {
			yield(slices.Clone(b))
		}
		if n == most {
			return
		}
		for _, u := range units {
			add(append(slices.Clone(b), u...), n+1)
		}
	}
	add(nil, 0)
}

func (w words) check(t *testing.T, table []api.Range, b []byte) {
	t.Helper()
	for _, final := range []bool{false, true} {
		want, decided := w.next(b, final)
		if n, ok := scan.Next(w.kind, table, b, final); n != want || ok != decided {
			t.Fatalf("Next(%d, %v, %q, %v) = %d, %v; want %d, %v", w.kind, table, b, final, n, ok, want, decided)
		}
	}
}

// P12.1: all short rows of what the chapter names, and of broken code points, by the usual table.
func TestShortRows(t *testing.T) {
	units := []string{"'", "s", "r", "e", "L", "a", "1", "!", " ", "\t", "\n", "\u20ac", "\xe2", "\x82", "\xff"}
	for _, kind := range kinds {
		w := readWords(kind, class.Usual())
		rows(units, 4, func(b []byte) { w.check(t, class.Usual(), b) })
	}
}

// P12.1: each sort of piece, alone and ahead of each other one, longer ones, too.
func TestSorts(t *testing.T) {
	units := []string{
		"'s", "'T", "'m", "'D", "'rE", "'Ve", "'lL", "'x", "'", "''", "letters", "\u00e9\u4e2d", "12", "123", "\u0663\u00b25\u2167", "?!", "\U0001f600", "\xc0", "\xf0\x9f\x98", "\xe2\x82", "\xc3",
		" ", "  ", "   ", "\t", "\u00a0", "\u3000", "\n", "\r\n", "\n\n", " \n ", "\t\r\t\t",
	}
	for _, kind := range kinds {
		w := readWords(kind, class.Usual())
		rows(units, 3, func(b []byte) { w.check(t, class.Usual(), b) })
	}
}

// P12.1: by tables where blanks, apostrophes and letters are of classes that they aren't usually of.
func TestTables(t *testing.T) {
	units := []string{"'", "s", "r", "e", "v", "L", "1", "!", " ", "\n", "\xe2"}
	for _, table := range tables() {
		for _, kind := range kinds {
			w := readWords(kind, table)
			rows(units, 3, func(b []byte) { w.check(t, table, b) })
		}
	}
}

// P12.1: all bytes, and all two of them, alone and behind an apostrophe.
func TestAllBytes(t *testing.T) {
	for _, kind := range kinds {
		w := readWords(kind, class.Usual())
		for x := range 256 {
			w.check(t, class.Usual(), []byte{byte(x)})
			for y := range 256 {
				w.check(t, class.Usual(), []byte{byte(x), byte(y)})
				w.check(t, class.Usual(), []byte{'\'', byte(x), byte(y)})
			}
		}
	}
}

// P12.1: long rows, of few units, so that there are long pieces, too.
func TestLongRows(t *testing.T) {
	chance := rand.New(rand.NewSource(12))
	units := []string{"a", "'re", "'", "R", "1", "!", " ", "\t", "\n", "\u20ac", "\u00e9", "\xe2", "\x82", "\xf0\x9f"}
	for range 20000 {
		some := make([]string, 1+chance.Intn(3))
		for i := range some {
			some[i] = units[chance.Intn(len(units))]
		}
		var b []byte
		for range 1 + chance.Intn(40) {
			b = append(b, some[chance.Intn(len(some))]...)
		}
		if chance.Intn(2) == 0 {
			b = append(b, units[chance.Intn(len(units))]...)
		}
		kind := kinds[chance.Intn(len(kinds))]
		readUsual[kind].check(t, class.Usual(), b)
	}
}

var readUsual = [...]words{readWords(api.None, class.Usual()), readWords(api.Blank, class.Usual()), readWords(api.Plain, class.Usual()), readWords(api.Wide, class.Usual())}

// P12.1: texts of the greatest size, cut from end to end.
func TestGreatTexts(t *testing.T) {
	for _, unit := range []string{"a", " ", "\n", "1", "'", "' ", "'s", "a ", "1a", "\n ", " \n", "!\n", "\xe2", "\u20ac", "It's 12345 o'clock!\r\n\t\tA\u00a0b  \xff"} {
		text := []byte(strings.Repeat(unit, api.MaxText/len(unit)))
		for _, kind := range kinds {
			pieces := 0
			for b := text; len(b) > 0; pieces++ {
				n, ok := scan.Next(kind, class.Usual(), b, true)
				if n < 1 || n > len(b) || !ok {
					t.Fatalf("Next(%d, usual, %q .. , true) = %d, %v", kind, b[:min(9, len(b))], n, ok)
				}
				if pieces%8192 == 1 || pieces == 0 {
					if want, _ := readUsual[kind].next(b, true); n != want {
						t.Fatalf("Next(%d, usual, %q .. , true) = %d; want %d", kind, b[:min(9, len(b))], n, want)
					}
				}
				b = b[n:]
			}
			if kind == api.None && pieces != 1 {
				t.Fatalf("None: %d pieces of %q", pieces, unit)
			}
		}
	}
}

// pieces are those of a text that is final.
func pieces(t *testing.T, kind int, s string) []string {
	t.Helper()
	var l []string
	for s != "" {
		n, ok := scan.Next(kind, class.Usual(), []byte(s), true)
		if n < 1 || n > len(s) || !ok {
			t.Fatalf("Next(%d, usual, %q, true) = %d, %v", kind, s, n, ok)
		}
		l, s = append(l, s[:n]), s[n:]
	}
	return l
}

// P12.1: the chapter's examples, and such as its words name.
func TestExamples(t *testing.T) {
	for _, x := range []struct {
		kind int
		text string
		want []string
	}{
		{api.Plain, "I'll go", []string{"I", "'ll", " go"}},
		{api.Plain, "a  b", []string{"a", " ", " b"}},
		{api.Wide, "a 12345\n\n b", []string{"a", " ", "123", "45", "\n\n", " b"}},
		{api.Plain, "we're on", []string{"we", "'re", " on"}},
		{api.Plain, " 12345 !? x", []string{" 12345", " !?", " x"}},
		{api.Plain, "'S'LL", []string{"'", "S", "'", "LL"}},
		{api.Wide, "'S'LL'll'Ve", []string{"'S", "'LL", "'ll", "'Ve"}},
		{api.Plain, "\n\n  a \n", []string{"\n\n ", " a", " \n"}},
		{api.Wide, "\n\n  a \n", []string{"\n\n", " ", " a", " \n"}},
		{api.Wide, "\ta\na", []string{"\ta", "\n", "a"}},
		{api.Wide, "(a 1a\xffa \xffa", []string{"(a", " ", "1", "a", "\xffa", " \xff", "a"}},
		{api.Wide, " !\n\r\n !", []string{" !\n\r\n", " !"}},
		{api.Blank, "  a1! \nb ", []string{"  a1!", " \nb", " "}},
		{api.None, " a\n'll", []string{" a\n'll"}},
	} {
		if got := pieces(t, x.kind, x.text); !slices.Equal(got, x.want) {
			t.Errorf("pieces of %q by %d: %q; want %q", x.text, x.kind, got, x.want)
		}
	}
	if n, ok := scan.Next(api.Plain, class.Usual(), []byte("'r"), false); n != 1 || ok {
		t.Errorf("Next(Plain, usual, 'r, false) = %d, %v; want 1, false", n, ok)
	}
}

// P12.1: no bytes, no such kind, tables that may not be.
func TestWrong(t *testing.T) {
	many := make([]api.Range, api.MaxRanges+1)
	for i := range many {
		many[i] = api.Range{Lo: 'a' + i, Hi: 'a' + i, Class: api.Letter}
	}
	bad := [][]api.Range{
		many,
		{{Lo: 5, Hi: 4, Class: api.Letter}},
		{{Lo: -1, Hi: 4, Class: api.Letter}},
		{{Lo: 0, Hi: api.MaxPoint + 1, Class: api.Letter}},
		{{Lo: 0, Hi: 4, Class: api.Other}},
		{{Lo: 0, Hi: 4, Class: api.Line + 1}},
		{{Lo: 0, Hi: 4, Class: api.Letter}, {Lo: 4, Hi: 5, Class: api.Letter}},
		{{Lo: math.MinInt, Hi: math.MaxInt, Class: api.Letter}},
	}
	for _, final := range []bool{false, true} {
		check := func(kind int, table []api.Range, b []byte) {
			t.Helper()
			if n, ok := scan.Next(kind, table, b, final); n != 0 || ok {
				t.Errorf("Next(%d, %v, %q, %v) = %d, %v; want 0, false", kind, table, b, final, n, ok)
			}
		}
		for _, kind := range kinds {
			check(kind, class.Usual(), nil)
			check(kind, class.Usual(), []byte{})
			for _, table := range bad {
				check(kind, table, []byte("ab c"))
			}
		}
		for _, kind := range []int{-1, 4, 5, math.MinInt, math.MaxInt, 1 << 32} {
			check(kind, class.Usual(), []byte("ab c"))
			check(kind, class.Usual(), nil)
		}
		if n, ok := scan.Next(api.Plain, many[:api.MaxRanges], []byte("abc d"), final); n != 3 || !ok {
			t.Errorf("Next by a table of the most ranges = %d, %v; want 3, true", n, ok)
		}
	}
}

// P12.1 (R3): neither the table nor the bytes are changed.
func TestGivenStays(t *testing.T) {
	table := class.Usual()
	for _, kind := range kinds {
		for _, s := range []string{"We'LL  go \n 123", "'L", "\t\t\xe2\x82"} {
			b := []byte(s)
			scan.Next(kind, table, b, false)
			if string(b) != s || !slices.Equal(table, class.Usual()) {
				t.Fatalf("Next(%d, usual, %q, false) changed what it was given", kind, s)
			}
		}
	}
}

// grow checks that what is decided of bytes stays so behind each longer row, as long as there is room.
func grow(t *testing.T, kind int, table []api.Range, b []byte, units []byte, room int) {
	n, decided := 0, false
	if len(b) > 0 {
		n, decided = scan.Next(kind, table, b, false)
	}
	if room == 0 {
		return
	}
	for _, x := range units {
		longer := append(slices.Clone(b), x)
		if decided {
			for _, final := range []bool{false, true} {
				if m, ok := scan.Next(kind, table, longer, final); m != n || !ok {
					t.Fatalf("Next(%d, %v, %q, false) = %d, true, but of %q, %v it is %d, %v", kind, table, b, n, longer, final, m, ok)
				}
			}
		}
		grow(t, kind, table, longer, units, room-1)
	}
}

// P12.2: whatever byte stands behind a piece that is decided, it stays; so whatever bytes.
func TestItStays(t *testing.T) {
	for _, kind := range kinds {
		grow(t, kind, class.Usual(), nil, []byte("'srelLa1! \t\n\xe2\x82\xac"), 4)
		for _, table := range tables() {
			grow(t, kind, table, nil, []byte("'srevL1! \n\xe2\x82"), 3)
		}
	}
}

// P12.2: longer rows, and all bytes behind them.
func TestLongStays(t *testing.T) {
	chance := rand.New(rand.NewSource(122))
	units := []string{"'", "r", "L", "a", "1", "!", " ", "\t", "\n", "\u20ac", "\xe2", "\x82", "\xf0\x9f"}
	all := make([]byte, 256)
	for x := range all {
		all[x] = byte(x)
	}
	for range 2000 {
		var b []byte
		for range 1 + chance.Intn(8) {
			b = append(b, units[chance.Intn(len(units))]...)
		}
		grow(t, kinds[chance.Intn(len(kinds))], class.Usual(), b, all, 1)
	}
}

// open is how many of all pieces are the first one that isn't decided, or behind it.
func open(t *testing.T, kind int, b []byte) int {
	t.Helper()
	n, sure := 0, true
	for len(b) > 0 {
		size, decided := scan.Next(kind, class.Usual(), b, false)
		if size < 1 || size > len(b) {
			t.Fatalf("Next(%d, usual, %q, false) = %d, %v", kind, b, size, decided)
		}
		sure = sure && decided
		if !sure {
			n++
		}
		b = b[size:]
	}
	return n
}

// P12.3: of all short rows, and of long ones, few pieces are open.
func TestFewAreOpen(t *testing.T) {
	most := [2]int{}
	check := func(b []byte) {
		for _, kind := range kinds {
			bound, more := 4, 1
			if utf.Rest(b) == 0 {
				bound, more = 2, 0
			}
			n := open(t, kind, b)
			if n > bound {
				t.Fatalf("%d pieces of %q by %d are open; want at most %d", n, b, kind, bound)
			}
			most[more] = max(most[more], n)
		}
	}
	rows([]string{"'", "s", "r", "L", "a", "1", "!", " ", "\t", "\n", "\u20ac", "\xe2", "\xf0\x9f\x98"}, 4, check)
	chance := rand.New(rand.NewSource(123))
	units := []string{"'", "'r", "'L", "l", "a", "12", "!", " ", "  ", "\t", "\n", "\r\n", "\u20ac", "\u00a0", "\xe2", "\x82", "\xf0\x9f"}
	for range 20000 {
		var b []byte
		for range 1 + chance.Intn(20) {
			b = append(b, units[chance.Intn(len(units))]...)
		}
		check(b)
	}
	if most != [2]int{2, 4} {
		t.Errorf("at most %d pieces are open here, and %d where bytes need more: these rows don't come to the bounds", most[0], most[1])
	}
}
