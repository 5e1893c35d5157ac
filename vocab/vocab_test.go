package vocab_test

import (
	"fmt"
	"math"
	"math/rand"
	"regexp"
	"slices"
	"sort"
	"strings"
	"testing"

	"footbridge/api"
	"footbridge/sample"
	"footbridge/vocab"
)

var nameForm = regexp.MustCompile(`\A[a-z0-9_]{1,24}\z`)

// least is the first place of bytes among tokens, by going through all of them.
func least(tokens []string, s string) int {
	for n, token := range tokens {
		if token == s && s != "" {
			return n
		}
	}
	return -1
}

// full tells whether a number is that of a token that isn't empty.
func full(v api.Vocab, n int) bool {
	return n >= 0 && n < len(v.Tokens) && v.Tokens[n] != ""
}

// tokensMay is point 1 of the chapter.
func tokensMay(v api.Vocab) bool {
	count := map[string]int{}
	for _, token := range v.Tokens {
		if len(token) > 64 {
			return false
		}
		count[token]++
	}
	for token, n := range count {
		if token != "" && n > 1 {
			return false
		}
	}
	for b := range 256 {
		if count[string([]byte{byte(b)})] != 1 {
			return false
		}
	}
	return len(v.Tokens) <= 4096
}

// mergesMay is point 2 of the chapter; it counts both parts, and keeps the Out of each order, as those of one order need not stand side by side.
func mergesMay(v api.Vocab) bool {
	if len(v.Merges) > 16384 {
		return false
	}
	both := map[[2]int]int{}
	outs := map[int]int{}
	for at, m := range v.Merges {
		if !full(v, m.Left) || !full(v, m.Right) || !full(v, m.Out) || v.Tokens[m.Left]+v.Tokens[m.Right] != v.Tokens[m.Out] {
			return false
		}
		if m.Order < 0 || m.Order > 1048576 {
			return false
		}
		if at > 0 && slices.Compare([]int{v.Merges[at-1].Order, v.Merges[at-1].Left, v.Merges[at-1].Right}, []int{m.Order, m.Left, m.Right}) > 0 {
			return false
		}
		both[[2]int{m.Left, m.Right}]++
		if both[[2]int{m.Left, m.Right}] > 1 {
			return false
		}
		if out, known := outs[m.Order]; known && out != m.Out {
			return false
		}
		outs[m.Order] = m.Out
	}
	return true
}

// outsMay is point 3 of the chapter.
func outsMay(v api.Vocab) bool {
	for n, token := range v.Tokens {
		if len(token) >= 2 && !slices.ContainsFunc(v.Merges, func(m api.Merge) bool { return m.Out == n }) {
			return false
		}
	}
	return true
}

// specialsMay is point 4 of the chapter.
func specialsMay(v api.Vocab) bool {
	for at, x := range v.Specials {
		if !nameForm.MatchString(x.Name) || x.ID < 0 || x.ID >= len(v.Tokens) || v.Tokens[x.ID] != "" {
			return false
		}
		for _, y := range v.Specials[at+1:] {
			if x.Name >= y.Name || x.ID == y.ID {
				return false
			}
		}
	}
	return len(v.Specials) <= 16
}

func may(v api.Vocab) bool {
	return tokensMay(v) && mergesMay(v) && outsMay(v) && specialsMay(v)
}

// laid are the tokens of rows and the specials by rising names, if the numbers may be.
func laid(rows []api.Row, specials []api.Special) (api.Vocab, bool) {
	size := 0
	at := map[int]string{}
	for _, row := range rows {
		if _, twice := at[row.Rank]; twice || row.Rank < 0 || row.Rank >= 4096 {
			return api.Vocab{}, false
		}
		at[row.Rank] = row.Token
		size = max(size, row.Rank+1)
	}
	for _, special := range specials {
		if special.ID < 0 || special.ID >= 4096 {
			return api.Vocab{}, false
		}
		size = max(size, special.ID+1)
	}
	v := api.Vocab{Specials: slices.Clone(specials)}
	for n := range size {
		v.Tokens = append(v.Tokens, at[n])
	}
	sort.SliceStable(v.Specials, func(x, y int) bool { return v.Specials[x].Name < v.Specials[y].Name })
	return v, true
}

// ofRows says of rows what the chapter does.
func ofRows(rows []api.Row, specials []api.Special) (api.Vocab, api.Errno) {
	v, ok := laid(rows, specials)
	if !ok || !tokensMay(v) {
		return api.Vocab{}, api.ErrForm
	}
	place := map[string]int{}
	for n, token := range v.Tokens {
		place[token] = n
	}
	for out, token := range v.Tokens {
		var some []api.Merge
		for at := 1; at < len(token); at++ {
			left, one := place[token[:at]]
			right, two := place[token[at:]]
			if one && two {
				some = append(some, api.Merge{Left: left, Right: right, Out: out, Order: out})
			}
		}
		sort.Slice(some, func(x, y int) bool { return some[x].Left < some[y].Left })
		v.Merges = append(v.Merges, some...)
	}
	if !may(v) {
		return api.Vocab{}, api.ErrForm
	}
	return v, api.OK
}

// ofTables says of tables what the chapter does.
func ofTables(x api.Tables, specials []api.Special) (api.Vocab, api.Errno) {
	v, ok := laid(x.Rows, specials)
	if !ok {
		return api.Vocab{}, api.ErrForm
	}
	for place, pair := range x.Pairs {
		m := api.Merge{Left: least(v.Tokens, pair.Left), Right: least(v.Tokens, pair.Right), Out: least(v.Tokens, pair.Left+pair.Right), Order: place}
		if m.Left < 0 || m.Right < 0 || m.Out < 0 {
			return api.Vocab{}, api.ErrForm
		}
		v.Merges = append(v.Merges, m)
	}
	if !may(v) {
		return api.Vocab{}, api.ErrForm
	}
	return v, api.OK
}

func same(x, y api.Vocab) bool {
	return slices.Equal(x.Tokens, y.Tokens) && slices.Equal(x.Merges, y.Merges) && slices.Equal(x.Specials, y.Specials)
}

// show tells how much there is of a vocabulary, and some of its last parts.
func show(v api.Vocab) string {
	return fmt.Sprintf("%d tokens %.60q, %d merges %v, specials %v",
		len(v.Tokens), v.Tokens[max(0, len(v.Tokens)-8):], len(v.Merges), v.Merges[max(0, len(v.Merges)-8):], v.Specials)
}

// checkMade holds what was made against what is wanted, and says that it may be, with the rows' tokens at their ranks.
func checkMade(t *testing.T, what string, rows []api.Row, v, want api.Vocab, err, wrong api.Errno) {
	t.Helper()
	if err != wrong || !same(v, want) {
		t.Errorf("%s = %s, %d; want %s, %d", what, show(v), err, show(want), wrong)
		return
	}
	if err != api.OK {
		return
	}
	if !vocab.May(v) {
		t.Errorf("%s = %s: may not be", what, show(v))
	}
	for _, row := range rows {
		if v.Tokens[row.Rank] != row.Token {
			t.Errorf("%s: %.60q at %d; want %.60q", what, v.Tokens[row.Rank], row.Rank, row.Token)
		}
	}
}

func checkRows(t *testing.T, rows []api.Row, specials []api.Special) api.Errno {
	t.Helper()
	oldRows, oldSpecials := slices.Clone(rows), slices.Clone(specials)
	v, err := vocab.FromRows(rows, specials)
	want, wrong := ofRows(oldRows, oldSpecials)
	checkMade(t, "FromRows", rows, v, want, err, wrong)
	if !slices.Equal(rows, oldRows) || !slices.Equal(specials, oldSpecials) {
		t.Error("FromRows has changed what was handed in")
	}
	return err
}

func checkTables(t *testing.T, x api.Tables, specials []api.Special) api.Errno {
	t.Helper()
	old, oldSpecials := api.Tables{Rows: slices.Clone(x.Rows), Pairs: slices.Clone(x.Pairs)}, slices.Clone(specials)
	v, err := vocab.FromTables(x, specials)
	want, wrong := ofTables(old, oldSpecials)
	checkMade(t, "FromTables", x.Rows, v, want, err, wrong)
	if !slices.Equal(x.Rows, old.Rows) || !slices.Equal(x.Pairs, old.Pairs) || !slices.Equal(specials, oldSpecials) {
		t.Error("FromTables has changed what was handed in")
	}
	return err
}

// checkMay holds May against the chapter's points.
func checkMay(t *testing.T, v api.Vocab) bool {
	t.Helper()
	old := sample.Clone(v)
	got := vocab.May(v)
	if want := may(v); got != want {
		t.Errorf("May(%s) = %v; want %v", show(v), got, want)
	}
	if !same(v, old) {
		t.Error("May has changed its vocabulary")
	}
	return got
}

// with is rows, and one more.
func with(rows []api.Row, token string, rank int) []api.Row {
	return append(slices.Clone(rows), api.Row{Token: token, Rank: rank})
}

// made is a vocabulary that must come of rows.
func made(t *testing.T, rows []api.Row, specials []api.Special) api.Vocab {
	t.Helper()
	v, err := vocab.FromRows(rows, specials)
	if err != api.OK {
		t.Fatal("FromRows:", err)
	}
	return v
}

// powers are tokens of one byte, from 2 of it to so many.
func powers(b byte, most int) []string {
	var l []string
	for n := 2; n <= most; n++ {
		l = append(l, strings.Repeat(string([]byte{b}), n))
	}
	return l
}

// manyCuts are tokens that can be cut in just 16384 ways.
func manyCuts() []string {
	var l []string
	for b := range byte(8) {
		l = append(l, powers('A'+b, 64)...)
	}
	l = append(l, powers('Z', 23)...)
	return append(l, "xy", "yz", "zx")
}

// pairsOf are the pairs of a vocabulary's merges.
func pairsOf(v api.Vocab) []api.Pair {
	var l []api.Pair
	for _, m := range v.Merges {
		l = append(l, api.Pair{Left: v.Tokens[m.Left], Right: v.Tokens[m.Right]})
	}
	return l
}

// P9.1: rows as a vocabulary, as the chapter's example and others tell.
func TestRowsAsSaid(t *testing.T) {
	v := made(t, sample.Rows("ab"), nil)
	if len(v.Tokens) != 257 || v.Tokens[256] != "ab" || !slices.Equal(v.Merges, []api.Merge{{Left: 97, Right: 98, Out: 256, Order: 256}}) || len(v.Specials) != 0 {
		t.Error(show(v))
	}
	v = made(t, with(sample.Rows("aaa"), "aa", 300), []api.Special{{Name: "z", ID: 299}, {Name: "_", ID: 310}, {Name: "a0", ID: 257}, {Name: "9", ID: 298}, {Name: "a", ID: 302}})
	want := []api.Merge{{Left: 97, Right: 300, Out: 256, Order: 256}, {Left: 300, Right: 97, Out: 256, Order: 256}, {Left: 97, Right: 97, Out: 300, Order: 300}}
	if len(v.Tokens) != 311 || v.Tokens[256] != "aaa" || v.Tokens[300] != "aa" || !slices.Equal(v.Merges, want) {
		t.Error(show(v))
	}
	if !slices.Equal(v.Specials, []api.Special{{Name: "9", ID: 298}, {Name: "_", ID: 310}, {Name: "a", ID: 302}, {Name: "a0", ID: 257}, {Name: "z", ID: 299}}) {
		t.Error(v.Specials)
	}
	if v = made(t, sample.Rows(), nil); len(v.Tokens) != 256 || len(v.Merges) != 0 || len(v.Specials) != 0 {
		t.Error(show(v))
	}
	for n, rows := range [][]api.Row{
		sample.Rows("ab", "abc", "bc"), sample.Rows("abcd", "abc", "bcd", "ab", "cd", "bc"), sample.Rows(powers(0, 64)...), sample.Rows(powers('\xff', 64)...),
		sample.Rows("ä", "ää", "\xa4\xc3"), slices.Concat(sample.Rows("ab")[100:], sample.Rows()[:100]), with(sample.Rows(), "ab", 4095), with(sample.Rows("ab"), "", 400),
	} {
		if err := checkRows(t, rows, nil); err != api.OK {
			t.Error(n, err)
		}
		if err := checkRows(t, rows, []api.Special{{Name: "end", ID: 4000}, {Name: "bos", ID: 350}}); err != api.OK {
			t.Error(n, err)
		}
	}
}

// P9.1: ranks need not follow the bytes: a byte's number is its place, whatever it is.
func TestRowsMixed(t *testing.T) {
	some := rand.New(rand.NewSource(9))
	for range 60 {
		rows := sample.Rows("ab", "bc", "abc", "bcab", "abcbc", "aa", "aab", "cabc", "ca")
		ranks := some.Perm(265 + some.Intn(40))
		for n := range rows {
			rows[n].Rank = ranks[n]
		}
		some.Shuffle(len(rows), func(x, y int) { rows[x], rows[y] = rows[y], rows[x] })
		if err := checkRows(t, rows, nil); err != api.OK {
			t.Error(err)
		}
		// Pairs in any order make merges of that order, with no more or fewer of them.
		pairs := pairsOf(made(t, rows, nil))
		some.Shuffle(len(pairs), func(x, y int) { pairs[x], pairs[y] = pairs[y], pairs[x] })
		if err := checkTables(t, api.Tables{Rows: rows, Pairs: pairs}, nil); err != api.OK {
			t.Error(err)
		}
		checkTables(t, api.Tables{Rows: rows, Pairs: pairs[:some.Intn(len(pairs))]}, nil)
	}
}

// P9.1: rows of which none, or a wrong one, can be made.
func TestRowsWrong(t *testing.T) {
	for n, rows := range [][]api.Row{
		nil, {}, {{Token: "a", Rank: 0}}, sample.Rows()[1:], sample.Rows()[:255], slices.Delete(sample.Rows("ab"), 120, 121),
		sample.Rows("ab", "ab"), sample.Rows("a"), sample.Rows("\x00"), sample.Rows("abc"), sample.Rows("ab", "abcd"), sample.Rows("ab", "cd", "bcda"),
		with(sample.Rows(), "ab", 255), with(sample.Rows(), "", 7), with(sample.Rows(""), "", 256), with(sample.Rows(""), "ab", 256), with(sample.Rows("ab"), "", 256), with(sample.Rows(), "a", 97),
		with(sample.Rows(), "ab", 4096), with(sample.Rows(), "ab", -1), with(sample.Rows(), "", 4096), with(sample.Rows(), "", -1), with(sample.Rows(), "ab", math.MaxInt), with(sample.Rows(), "ab", math.MinInt), with(sample.Rows(), "ab", 1<<32),
		sample.Rows(append(powers('a', 64), strings.Repeat("a", 65))...), sample.Rows(strings.Repeat("a", 1<<20)), slices.Repeat(sample.Rows(), 100), slices.Repeat([]api.Row{{Token: "a"}}, 100000),
	} {
		if v, err := vocab.FromRows(rows, nil); err != api.ErrForm || len(v.Tokens)+len(v.Merges)+len(v.Specials) != 0 {
			t.Errorf("rows %d: %s, %d", n, show(v), err)
		}
		checkRows(t, rows, []api.Special{{Name: "end", ID: 300}})
		if v, err := vocab.FromTables(api.Tables{Rows: rows}, nil); err != api.ErrForm || len(v.Tokens)+len(v.Merges)+len(v.Specials) != 0 {
			t.Errorf("tables %d: %s, %d", n, show(v), err)
		}
	}
}

// specialCases are specials beside the 256 bytes, an empty row at 256, and "ab" at 257, and whether they may be.
func specialCases() map[bool][][]api.Special {
	var most []api.Special
	for n := range 17 {
		most = append(most, api.Special{Name: "n" + string(rune('a'+n)), ID: 300 + n})
	}
	long := strings.Repeat("z", 24)
	return map[bool][][]api.Special{
		true: {
			nil, {}, {{Name: "end", ID: 256}}, {{Name: "end", ID: 258}}, {{Name: "end", ID: 4095}}, {{Name: "b", ID: 300}, {Name: "a", ID: 301}}, {{Name: "b", ID: 301}, {Name: "a", ID: 300}},
			{{Name: "a_b", ID: 300}, {Name: "a", ID: 4095}, {Name: "ab", ID: 299}, {Name: "a0", ID: 256}, {Name: "0", ID: 298}, {Name: "_", ID: 297}}, {{Name: long, ID: 300}, {Name: "0123456789_abcdefghijklm", ID: 301}}, most[:16], most[1:], {{Name: "z", ID: 300}, {Name: "zz", ID: 299}},
		},
		false: {
			{{Name: "end", ID: 5}}, {{Name: "end", ID: 257}}, {{Name: "end", ID: 0}}, {{Name: "end", ID: -1}}, {{Name: "end", ID: 4096}}, {{Name: "end", ID: math.MaxInt}}, {{Name: "end", ID: math.MinInt}}, {{Name: "end", ID: 1 << 32}},
			{{Name: "a", ID: 300}, {Name: "a", ID: 301}}, {{Name: "a", ID: 300}, {Name: "a", ID: 300}}, {{Name: "a", ID: 300}, {Name: "b", ID: 301}, {Name: "a", ID: 302}}, {{Name: "a", ID: 300}, {Name: "b", ID: 300}}, {{Name: "a", ID: 300}, {Name: "b", ID: 301}, {Name: "c", ID: 300}},
			{{Name: "", ID: 300}}, {{Name: long + "z", ID: 300}}, {{Name: strings.Repeat("z", 1000), ID: 300}}, {{Name: "a", ID: 300}, {Name: "A", ID: 301}}, {{Name: "ä", ID: 300}}, {{Name: "a b", ID: 300}}, {{Name: "a-b", ID: 300}}, {{Name: "a\n", ID: 300}}, {{Name: "<s>", ID: 300}}, most,
			{{Name: "end", ID: 300}, {Name: "x", ID: 97}}, {{Name: "end", ID: 300}, {Name: "x", ID: -1}}, {{Name: "end", ID: 300}, {Name: "x", ID: 4096}},
		},
	}
}

// P9.1: specials that may be, in any order, and those that may not.
func TestSpecials(t *testing.T) {
	rows := sample.Rows("", "ab")
	pairs := []api.Pair{{Left: "a", Right: "b"}}
	for good, cases := range specialCases() {
		want := api.ErrForm
		if good {
			want = api.OK
		}
		for _, l := range cases {
			for range 2 {
				if err := checkRows(t, rows, l); err != want {
					t.Errorf("FromRows with %v: %d; want %d", l, err, want)
				}
				if err := checkTables(t, api.Tables{Rows: rows, Pairs: pairs}, l); err != want {
					t.Errorf("FromTables with %v: %d; want %d", l, err, want)
				}
				l = slices.Clone(l)
				slices.Reverse(l)
			}
		}
	}
}

// P9.1: each byte as a name, and at the ends and in the midst of one.
func TestSpecialNames(t *testing.T) {
	for b := range 256 {
		one := string([]byte{byte(b)})
		good := 'a' <= b && b <= 'z' || '0' <= b && b <= '9' || b == '_'
		for _, name := range []string{one, one + "x", "x" + one, "xx" + one + "xx", strings.Repeat("x", 23) + one} {
			v := made(t, sample.Rows(), []api.Special{{Name: "end", ID: 256}})
			v.Specials[0].Name = name
			if got := checkMay(t, v); got != good {
				t.Errorf("May with the name %q: %v", name, got)
			}
			if err := checkRows(t, sample.Rows(), v.Specials); (err == api.OK) != good {
				t.Errorf("FromRows with the name %q: %d", name, err)
			}
		}
	}
}

// P9.1: tables as a vocabulary: a merge for each pair, of the pair's place.
func TestTablesAsSaid(t *testing.T) {
	x := api.Tables{Rows: sample.Rows("ab", "abc", "bc"), Pairs: []api.Pair{{Left: "b", Right: "c"}, {Left: "a", Right: "bc"}, {Left: "a", Right: "b"}, {Left: "ab", Right: "c"}}}
	v, err := vocab.FromTables(x, []api.Special{{Name: "end", ID: 270}, {Name: "bos", ID: 260}})
	want := []api.Merge{{Left: 98, Right: 99, Out: 258, Order: 0}, {Left: 97, Right: 258, Out: 257, Order: 1}, {Left: 97, Right: 98, Out: 256, Order: 2}, {Left: 256, Right: 99, Out: 257, Order: 3}}
	if err != api.OK || len(v.Tokens) != 271 || !slices.Equal(v.Merges, want) || !slices.Equal(v.Specials, []api.Special{{Name: "bos", ID: 260}, {Name: "end", ID: 270}}) {
		t.Error(show(v), err)
	}
	if v, err = vocab.FromTables(api.Tables{Rows: sample.Rows()}, nil); err != api.OK || len(v.Tokens) != 256 || len(v.Merges) != 0 {
		t.Error(show(v), err)
	}
	if v, err = vocab.FromTables(api.Tables{}, nil); err != api.ErrForm || len(v.Tokens) != 0 {
		t.Error(show(v), err)
	}
	checkTables(t, x, nil)
}

// P9.1: pairs whose parts are no tokens, or not together, that are there twice, or too few, wherever they stand.
func TestTablesWrong(t *testing.T) {
	x := api.Tables{Rows: sample.Rows("ab", "abc", "bc", ""), Pairs: []api.Pair{{Left: "b", Right: "c"}, {Left: "a", Right: "bc"}, {Left: "a", Right: "b"}}}
	for _, pair := range []api.Pair{
		{}, {Left: "", Right: "a"}, {Left: "a", Right: ""}, {Left: "", Right: "ab"}, {Left: "c", Right: "a"}, {Left: "zz", Right: "a"}, {Left: "a", Right: "zz"}, {Left: "ab", Right: "cd"}, {Left: "abc", Right: "a"},
		{Left: "a", Right: "b"}, {Left: "b", Right: "c"}, {Left: "a", Right: "bc"}, {Left: strings.Repeat("a", 1<<20), Right: "a"}, {Left: "a", Right: strings.Repeat("a", 1<<20)},
	} {
		for at := range 4 {
			wrong := api.Tables{Rows: x.Rows, Pairs: slices.Insert(slices.Clone(x.Pairs), at, pair)}
			if err := checkTables(t, wrong, nil); err != api.ErrForm {
				t.Errorf("with %.60q at %d: %d", pair, at, err)
			}
		}
	}
	// "abc" has one of its two pairs, the others have just one.
	for at, want := range []api.Errno{api.ErrForm, api.ErrForm, api.ErrForm} {
		if err := checkTables(t, api.Tables{Rows: x.Rows, Pairs: slices.Delete(slices.Clone(x.Pairs), at, at+1)}, nil); err != want {
			t.Errorf("without pair %d: %d", at, err)
		}
	}
	other := api.Tables{Rows: x.Rows, Pairs: []api.Pair{{Left: "ab", Right: "c"}, {Left: "b", Right: "c"}, {Left: "a", Right: "b"}}}
	if err := checkTables(t, other, nil); err != api.OK {
		t.Error(err)
	}
}

// P9.1: 16384 merges may be, one more may not.
func TestManyMerges(t *testing.T) {
	rows := sample.Rows(manyCuts()...)
	v := made(t, rows, nil)
	if len(v.Merges) != 16384 {
		t.Fatal(len(v.Merges))
	}
	checkRows(t, rows, nil)
	more := sample.Rows(append(manyCuts(), "zy")...)
	if err := checkRows(t, more, nil); err != api.ErrForm {
		t.Error("FromRows of 16385 merges:", err)
	}
	pairs := pairsOf(v)
	if err := checkTables(t, api.Tables{Rows: rows, Pairs: pairs}, nil); err != api.OK {
		t.Error("FromTables of 16384 pairs:", err)
	}
	pairs = append(pairs, api.Pair{Left: "z", Right: "y"})
	if err := checkTables(t, api.Tables{Rows: more, Pairs: pairs}, nil); err != api.ErrForm {
		t.Error("FromTables of 16385 pairs:", err)
	}
	v.Tokens = append(v.Tokens, "zy")
	if checkMay(t, v) {
		t.Error("May without the last token's merge")
	}
	v.Merges = append(v.Merges, api.Merge{Left: 'z', Right: 'y', Out: len(v.Tokens) - 1, Order: len(v.Tokens) - 1})
	if checkMay(t, v) {
		t.Error("May with 16385 merges")
	}
	// "ZZZ" loses one of its two merges: there are 16384 again.
	cut := slices.IndexFunc(v.Merges, func(m api.Merge) bool { return v.Tokens[m.Out] == "ZZZ" })
	v.Merges = slices.Delete(v.Merges, cut, cut+1)
	if !checkMay(t, v) {
		t.Error("May with 16384 merges")
	}
}

// P9.1: 4096 tokens may be, and a token at each place; more may not.
func TestManyTokens(t *testing.T) {
	v := made(t, sample.Rows(), []api.Special{{Name: "end", ID: 4095}})
	if len(v.Tokens) != 4096 || !checkMay(t, v) {
		t.Error(len(v.Tokens))
	}
	v.Tokens = append(v.Tokens, "")
	if checkMay(t, v) {
		t.Error("May with 4097 tokens")
	}
	var all []string
	for n := range 3840 {
		all = append(all, string([]byte{byte(n / 60), byte(n % 60)}))
	}
	v = made(t, sample.Rows(all...), nil)
	if len(v.Tokens) != 4096 || len(v.Merges) != 3840 {
		t.Error(show(v))
	}
	checkRows(t, sample.Rows(all...), nil)
	if err := checkRows(t, sample.Rows(append(all, "zz")...), nil); err != api.ErrForm {
		t.Error("FromRows of 4097 rows:", err)
	}
	// No number is left for a special, though the rows may be.
	for _, id := range []int{0, 97, 255, 256, 2000, 4094, 4095, 4096} {
		if _, err := vocab.FromRows(sample.Rows(all...), []api.Special{{Name: "end", ID: id}}); err != api.ErrForm {
			t.Error(id, err)
		}
	}
	if vocab.May(api.Vocab{Tokens: make([]string, 1<<20)}) || vocab.May(api.Vocab{Merges: make([]api.Merge, 1<<20)}) || vocab.May(api.Vocab{Specials: make([]api.Special, 1<<20)}) {
		t.Error("May with huge lists")
	}
}

// P9.1: tokens of 64 bytes may be, those of 65 may not.
func TestLongTokens(t *testing.T) {
	l := []string{"aa", "aaaa", strings.Repeat("a", 8), strings.Repeat("a", 16), strings.Repeat("a", 32), strings.Repeat("a", 64)}
	v := made(t, sample.Rows(l...), nil)
	if len(v.Merges) != 6 || !checkMay(t, v) {
		t.Error(show(v))
	}
	long := v.Tokens[261] + "a"
	v.Tokens = append(v.Tokens, long)
	v.Merges = append(v.Merges, api.Merge{Left: 261, Right: 'a', Out: 262, Order: 262})
	if checkMay(t, v) {
		t.Error("May with 65 bytes")
	}
	if err := checkRows(t, sample.Rows(append(l, long)...), nil); err != api.ErrForm {
		t.Error("FromRows with 65 bytes:", err)
	}
	if err := checkTables(t, api.Tables{Rows: sample.Rows(append(l, long)...), Pairs: pairsOf(v)}, nil); err != api.ErrForm {
		t.Error("FromTables with 65 bytes:", err)
	}
	// A long token that nothing merges to is wrong twice.
	v.Merges = v.Merges[:6]
	checkMay(t, v)
}

// P9.1: tokens that aren't all bytes, or are the same.
func TestMayTokens(t *testing.T) {
	good := made(t, sample.Rows("ab", "", ""), nil)
	for n := range 256 {
		v := sample.Clone(good)
		v.Tokens[n] = ""
		v.Merges = nil
		v.Tokens[256] = ""
		if checkMay(t, v) {
			t.Errorf("May without the byte %d", n)
		}
		v.Tokens[257] = string([]byte{byte(n)})
		if !checkMay(t, v) {
			t.Errorf("May with the byte %d at another place", n)
		}
		v.Tokens[258] = string([]byte{byte(n)})
		if checkMay(t, v) {
			t.Errorf("May with the byte %d twice", n)
		}
	}
	v := sample.Clone(good)
	v.Tokens[258] = "ab"
	if checkMay(t, v) {
		t.Error("May with a token twice")
	}
	v.Merges = append(v.Merges, api.Merge{Left: 'a', Right: 'b', Out: 258, Order: 258})
	if checkMay(t, v) {
		t.Error("May with a token and its merge twice")
	}
	if checkMay(t, api.Vocab{}) || checkMay(t, api.Vocab{Tokens: []string{}, Merges: []api.Merge{}, Specials: []api.Special{}}) {
		t.Error("May without tokens")
	}
}

// P9.1: each merge for itself: its numbers, its bytes, its order.
func TestMayMerge(t *testing.T) {
	good := made(t, sample.Rows("ab", "abc", "bc", ""), []api.Special{{Name: "end", ID: 259}})
	for at := range good.Merges {
		for _, n := range []int{-1, 0, 97, 98, 99, 256, 257, 258, 259, 260, 4096, math.MaxInt, math.MinInt} {
			for field := range 3 {
				v := sample.Clone(good)
				m := &v.Merges[at]
				place := []*int{&m.Left, &m.Right, &m.Out}[field]
				same := *place == n
				*place = n
				if got := checkMay(t, v); got != same {
					t.Errorf("May with merge %d as %v: %v", at, *m, got)
				}
			}
		}
	}
	// Both sides of an empty token are no merge, though their bytes fit.
	for _, m := range []api.Merge{{Left: 259, Right: 97, Out: 97}, {Left: 97, Right: 259, Out: 97}, {Left: 259, Right: 259, Out: 259}, {Left: 98, Right: 97, Out: 256}} {
		v := sample.Clone(good)
		v.Merges = slices.Insert(v.Merges, 0, m)
		if checkMay(t, v) {
			t.Errorf("May with %v", m)
		}
	}
}

// P9.1: orders rise, from 0 to 2^20; merges of one order have one Out, and rise by Left.
func TestMayOrders(t *testing.T) {
	v := made(t, sample.Rows("ab", "abc", "bc"), nil)
	for _, c := range []struct {
		orders [4]int
		want   bool
	}{
		{[4]int{0, 1, 2, 3}, true}, {[4]int{0, 0, 2, 3}, false}, {[4]int{0, 1, 1, 3}, true}, {[4]int{0, 1, 2, 2}, false}, {[4]int{0, 1, 1, 1}, false}, {[4]int{5, 5, 5, 5}, false},
		{[4]int{-1, 0, 1, 2}, false}, {[4]int{0, 5, 9, 1 << 20}, true}, {[4]int{0, 5, 9, 1<<20 + 1}, false}, {[4]int{0, 1 << 20, 1 << 20, 1 << 20}, false}, {[4]int{math.MinInt, 0, 1, 2}, false}, {[4]int{0, 1, 2, math.MaxInt}, false},
		{[4]int{1, 0, 2, 3}, false}, {[4]int{0, 2, 1, 3}, false}, {[4]int{0, 1, 3, 2}, false}, {[4]int{3, 2, 1, 0}, false}, {[4]int{0, 1 << 20, 1<<20 - 1, 1 << 20}, false},
	} {
		w := sample.Clone(v)
		for at, order := range c.orders {
			w.Merges[at].Order = order
		}
		if got := checkMay(t, w); got != c.want {
			t.Errorf("May with the orders %v: %v", c.orders, got)
		}
	}
	// The two merges of "abc" have one order: the one whose Left is less comes first.
	w := sample.Clone(v)
	w.Merges[1], w.Merges[2] = w.Merges[2], w.Merges[1]
	if checkMay(t, w) {
		t.Error("May with merges that don't rise by Left")
	}
	for at := range w.Merges {
		w = sample.Clone(v)
		w.Merges = slices.Insert(w.Merges, at, w.Merges[at])
		if checkMay(t, w) {
			t.Errorf("May with merge %d twice", at)
		}
		last := v.Merges[at]
		last.Order = 2000
		w = sample.Clone(v)
		w.Merges = append(w.Merges, last)
		if checkMay(t, w) {
			t.Errorf("May with merge %d twice, in two orders", at)
		}
	}
}

// P9.1: specials of a vocabulary must stand by rising names.
func TestMaySpecials(t *testing.T) {
	for good, cases := range specialCases() {
		for _, l := range cases {
			v := made(t, sample.Rows("", "ab"), []api.Special{{Name: "end", ID: 4095}})
			v.Specials = slices.Clone(l)
			checkMay(t, v)
			slices.Reverse(v.Specials)
			checkMay(t, v)
			slices.SortStableFunc(v.Specials, func(x, y api.Special) int { return strings.Compare(x.Name, y.Name) })
			if got := checkMay(t, v); got != good {
				t.Errorf("May with %v: %v", v.Specials, got)
			}
		}
	}
	v := made(t, sample.Rows(""), nil)
	v.Specials = []api.Special{{Name: "end", ID: 257}}
	if checkMay(t, v) {
		t.Error("May with a special behind all tokens")
	}
}

// change makes one thing of a vocabulary another one.
func change(v *api.Vocab, some *rand.Rand) {
	number := func() int { return []int{-1, 97, 98, 99, 256, 257, 258, 259, 260, 261, 262, 263}[some.Intn(12)] }
	text := func() string { return []string{"", "a", "ab", "bc", "abc", "ca", "bca", "aa"}[some.Intn(8)] }
	switch some.Intn(7) {
	case 0:
		v.Tokens[256+some.Intn(len(v.Tokens)-256)] = text()
	case 1:
		v.Tokens = append(v.Tokens, text())
	case 2:
		x, y := some.Intn(len(v.Merges)), some.Intn(len(v.Merges))
		v.Merges[x], v.Merges[y] = v.Merges[y], v.Merges[x]
	case 3:
		m := &v.Merges[some.Intn(len(v.Merges))]
		*[]*int{&m.Left, &m.Right, &m.Out, &m.Order, &m.Order, &m.Order}[some.Intn(6)] = number()
	case 4:
		at := some.Intn(len(v.Merges))
		v.Merges = append(slices.Delete(v.Merges, at, at+1), v.Merges[:some.Intn(2)]...)
	case 5:
		v.Specials[some.Intn(len(v.Specials))] = api.Special{Name: []string{"a", "b", "c", "", "B"}[some.Intn(5)], ID: number()}
	case 6:
		v.Merges = append(v.Merges, api.Merge{Left: number(), Right: number(), Out: number(), Order: 200 + some.Intn(100)})
	}
}

// P9.1: vocabularies of which a few things were changed, against the chapter's points.
func TestMayOfMany(t *testing.T) {
	some := rand.New(rand.NewSource(26))
	count := [2]int{}
	good := made(t, sample.Rows("ab", "abc", "bc", "ca", "bca"), []api.Special{{Name: "a", ID: 261}, {Name: "c", ID: 263}})
	for range 12000 {
		v := sample.Clone(good)
		for range some.Intn(4) {
			change(&v, some)
		}
		if checkMay(t, v) {
			count[1]++
		} else {
			count[0]++
		}
	}
	if count[0] < 2000 || count[1] < 2000 {
		t.Error("too few of one kind:", count)
	}
}

// P9.1 and P9.2: many rows, pairs and specials, right and wrong, against the chapter's words.
func TestMadeOfMany(t *testing.T) {
	some := rand.New(rand.NewSource(27))
	texts := []string{"ab", "bc", "abc", "ca", "bca", "aa", "aab", "", "cab", "abca"}
	count := map[api.Errno]int{}
	for range 3000 {
		var l []string
		for _, n := range some.Perm(len(texts))[:some.Intn(len(texts))] {
			l = append(l, texts[n])
		}
		rows := sample.Rows(l...)
		if some.Intn(6) == 0 {
			rows[some.Intn(len(rows))].Rank = []int{-1, 97, 256, 270, 4095, 4096}[some.Intn(6)]
		}
		var specials []api.Special
		for range some.Intn(3) {
			specials = append(specials, api.Special{Name: []string{"a", "b", "c", "d"}[some.Intn(4)], ID: 260 + some.Intn(20)})
		}
		count[checkRows(t, rows, specials)]++
		var pairs []api.Pair
		for _, s := range l {
			if len(s) > 1 && some.Intn(12) > 0 {
				at := 1 + some.Intn(len(s)-1)
				pairs = append(pairs, api.Pair{Left: s[:at], Right: s[at:]})
			}
		}
		count[checkTables(t, api.Tables{Rows: rows, Pairs: pairs}, specials)]++
	}
	if count[api.OK] < 1000 || count[api.ErrForm] < 1000 {
		t.Error("too few of one kind:", count)
	}
}

// P9.2: what is made may be, and has the rows' tokens at their ranks, wherever these are; other places are empty.
func TestWhatIsMadeMayBe(t *testing.T) {
	some := rand.New(rand.NewSource(28))
	for range 100 {
		rows := sample.Rows("ab", "abc", "bc", "ca", "bca", "")
		ranks := some.Perm(4096)
		at := map[int]string{}
		for n := range rows {
			rows[n].Rank = ranks[n]
			at[ranks[n]] = rows[n].Token
		}
		specials := []api.Special{{Name: "end", ID: ranks[300]}, {Name: "bos", ID: ranks[301]}, {Name: "pad", ID: ranks[261]}}
		v := made(t, rows, specials)
		w, err := vocab.FromTables(api.Tables{Rows: rows, Pairs: pairsOf(v)}, specials)
		if err != api.OK || !vocab.May(v) || !vocab.May(w) || !slices.Equal(v.Tokens, w.Tokens) {
			t.Error(show(v), show(w), err)
		}
		for n, token := range v.Tokens {
			if token != at[n] {
				t.Errorf("%q at %d; want %q", token, n, at[n])
			}
		}
	}
}

// P9.1: tokens' numbers and bytes, of any vocabulary.
func TestOfAndBytes(t *testing.T) {
	v := made(t, sample.Rows("ab", "", "abc"), []api.Special{{Name: "end", ID: 257}})
	for n, token := range v.Tokens {
		s, ok := vocab.Bytes(v, n)
		if s != token || ok != (token != "") {
			t.Errorf("Bytes(%d) = %q, %v; want %q", n, s, ok, token)
		}
		if want := least(v.Tokens, token); vocab.Of(v, token) != want {
			t.Errorf("Of(%q) = %d; want %d", token, vocab.Of(v, token), want)
		}
	}
	for _, s := range []string{"", "b\x00", "abcd", "ba", "ä", "end", strings.Repeat("a", 1<<16)} {
		if n := vocab.Of(v, s); n != -1 {
			t.Errorf("Of(%.60q) = %d; want -1", s, n)
		}
	}
	for _, n := range []int{-1, 257, 259, 4096, math.MaxInt, math.MinInt} {
		if s, ok := vocab.Bytes(v, n); ok || s != "" {
			t.Errorf("Bytes(%d) = %q, %v; want none", n, s, ok)
		}
	}
	// One that may not be, with tokens that are there several times.
	w := api.Vocab{Tokens: []string{"", "x", "", "y", "x", "long" + strings.Repeat("g", 100), "y", ""}}
	for s, want := range map[string]int{"": -1, "x": 1, "y": 3, w.Tokens[5]: 5, "z": -1, "long": -1} {
		if n := vocab.Of(w, s); n != want {
			t.Errorf("Of(%.60q) = %d; want %d", s, n, want)
		}
	}
	for n, want := range w.Tokens {
		if s, ok := vocab.Bytes(w, n); s != want || ok != (want != "") {
			t.Errorf("Bytes(%d) = %.60q, %v; want %.60q", n, s, ok, want)
		}
	}
	if s, ok := vocab.Bytes(api.Vocab{}, 0); ok || s != "" || vocab.Of(api.Vocab{}, "a") != -1 || vocab.Of(api.Vocab{}, "") != -1 {
		t.Error("of no tokens")
	}
}

// P9.1: specials' names and IDs, of any vocabulary: the first one of several.
func TestNameAndID(t *testing.T) {
	v := made(t, sample.Rows(), []api.Special{{Name: "end", ID: 300}, {Name: "bos", ID: 299}})
	for name, id := range map[string]int{"end": 300, "bos": 299} {
		if s, ok := vocab.Name(v, id); !ok || s != name || vocab.ID(v, name) != id {
			t.Error(name, s, ok, vocab.ID(v, name))
		}
	}
	for _, id := range []int{-1, 0, 97, 298, 301, 4096, math.MaxInt, math.MinInt} {
		if s, ok := vocab.Name(v, id); ok || s != "" {
			t.Errorf("Name(%d) = %q, %v; want none", id, s, ok)
		}
	}
	for _, name := range []string{"", "pad", "en", "ends", "END", "a"} {
		if id := vocab.ID(v, name); id != -1 {
			t.Errorf("ID(%q) = %d; want -1", name, id)
		}
	}
	// One that may not be: names and IDs of all kinds, in no order, some of them twice.
	w := api.Vocab{Specials: []api.Special{{Name: "z", ID: 7}, {Name: "a", ID: -5}, {Name: "z", ID: 9}, {Name: "b", ID: 7}, {Name: "", ID: 9}, {Name: "A!", ID: math.MaxInt}, {Name: "", ID: 11}}}
	for name, want := range map[string]int{"z": 7, "a": -5, "b": 7, "": 9, "A!": math.MaxInt, "c": -1} {
		if id := vocab.ID(w, name); id != want {
			t.Errorf("ID(%q) = %d; want %d", name, id, want)
		}
	}
	for id, want := range map[int]string{7: "z", -5: "a", 9: "z", math.MaxInt: "A!", 11: ""} {
		if name, ok := vocab.Name(w, id); !ok || name != want {
			t.Errorf("Name(%d) = %q, %v; want %q", id, name, ok, want)
		}
	}
	if s, ok := vocab.Name(api.Vocab{}, 0); ok || s != "" || vocab.ID(api.Vocab{}, "") != -1 {
		t.Error("of no specials")
	}
}

// P9.1: what is handed in isn't kept, and what is answered is new memory.
func TestApart(t *testing.T) {
	rows, specials := sample.Rows("ab", "bc", "abc"), []api.Special{{Name: "a", ID: 260}, {Name: "b", ID: 261}}
	pairs := []api.Pair{{Left: "a", Right: "b"}, {Left: "b", Right: "c"}, {Left: "ab", Right: "c"}}
	makers := []func() api.Vocab{
		func() api.Vocab { return made(t, rows, specials) },
		func() api.Vocab {
			v, _ := vocab.FromTables(api.Tables{Rows: rows, Pairs: pairs}, specials)
			return v
		},
	}
	for n, maker := range makers {
		v := maker()
		old := sample.Clone(v)
		rows[256].Token, specials[0].Name, specials[1].ID, pairs[0].Left = "xy", "zz", 5, "q"
		if !same(v, old) {
			t.Errorf("maker %d: %s has changed with what was handed in", n, show(v))
		}
		rows[256].Token, specials[0].Name, specials[1].ID, pairs[0].Left = "ab", "a", 261, "a"
		v.Tokens[256], v.Merges[0].Left, v.Specials[0].Name, v.Specials[1].ID = "xy", 5, "zz", 5
		if rows[256].Token != "ab" || specials[0].Name != "a" || specials[1].ID != 261 || !same(maker(), old) {
			t.Errorf("maker %d: what was handed in has changed with the answer", n)
		}
	}
}
