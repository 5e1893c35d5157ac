package pair_test

import (
	"fmt"
	"math"
	"math/rand"
	"slices"
	"strings"
	"testing"

	"footbridge/api"
	"footbridge/pair"
	"footbridge/sample"
	"footbridge/vocab"
)

func tableOf(t *testing.T, v api.Vocab) *pair.Table {
	t.Helper()
	p, err := pair.New(v)
	if p == nil || err != api.OK {
		t.Fatal("New:", err)
	}
	return p
}

// numbers are those of tokens that are told with blanks between.
func numbers(v api.Vocab, tokens string) []int {
	var row []int
	for _, s := range strings.Fields(tokens) {
		row = append(row, vocab.Of(v, s))
	}
	return row
}

// find goes through all merges.
func find(v api.Vocab, left, right int) (api.Merge, bool) {
	for _, m := range v.Merges {
		if m.Left == left && m.Right == right {
			return m, true
		}
	}
	return api.Merge{}, false
}

// best says of a row what the chapter does: of all that could merge, those of the least order, and of these the first.
func best(v api.Vocab, row []int) (int, api.Merge, bool) {
	type choice struct {
		at    int
		merge api.Merge
	}
	var all []choice
	for at := range max(0, len(row)-1) {
		if m, ok := find(v, row[at], row[at+1]); ok {
			all = append(all, choice{at, m})
		}
	}
	if len(all) == 0 {
		return 0, api.Merge{}, false
	}
	slices.SortFunc(all, func(x, y choice) int { return slices.Compare([]int{x.merge.Order, x.at}, []int{y.merge.Order, y.at}) })
	return all[0].at, all[0].merge, true
}

// step lays a row behind a step together anew.
func step(v api.Vocab, row []int) ([]int, bool) {
	at, m, ok := best(v, row)
	if !ok {
		return nil, false
	}
	return slices.Concat(row[:at], []int{m.Out}, row[at+2:]), true
}

// run takes step by step.
func run(v api.Vocab, row []int) []int {
	for next, ok := step(v, row); ok; next, ok = step(v, row) {
		row = next
	}
	return row
}

// told is what a row tells: tokens' bytes, and numbers that no token has as they are.
func told(v api.Vocab, row []int) string {
	var b strings.Builder
	for _, n := range row {
		if s, ok := vocab.Bytes(v, n); ok {
			b.WriteString(s)
		} else {
			fmt.Fprintf(&b, "<%d>", n)
		}
	}
	return b.String()
}

// checkBest holds what a step takes, and the row behind it, against the chapter's words.
func checkBest(t *testing.T, v api.Vocab, p *pair.Table, row []int) {
	t.Helper()
	at, m, ok := p.Best(row)
	if wantAt, want, wantOK := best(v, row); at != wantAt || m != want || ok != wantOK {
		t.Errorf("Best(%v) = %d, %v, %v; want %d, %v, %v", row, at, m, ok, wantAt, want, wantOK)
	}
	next, ok := p.Step(row)
	if want, wantOK := step(v, row); !slices.Equal(next, want) || ok != wantOK {
		t.Errorf("Step(%v) = %v, %v; want %v, %v", row, next, ok, want, wantOK)
	}
}

// checkRow holds all that is asked of a row against the chapter's words, and says that its bytes stay.
func checkRow(t *testing.T, v api.Vocab, p *pair.Table, row []int) {
	t.Helper()
	old := slices.Clone(row)
	checkBest(t, v, p, row)
	end := p.Run(row)
	if want := run(v, old); !slices.Equal(end, want) {
		t.Errorf("Run(%v) = %v; want %v", row, end, want)
	}
	if told(v, end) != told(v, old) {
		t.Errorf("Run(%v) = %v tells %q; want %q", row, end, told(v, end), told(v, old))
	}
	if !slices.Equal(row, old) {
		t.Errorf("%v has become %v", old, row)
	}
}

// checkAllRows goes through all rows of some numbers, up to so many of them.
func checkAllRows(t *testing.T, v api.Vocab, some []int, most int) {
	t.Helper()
	p := tableOf(t, v)
	var longer func(row []int)
	longer = func(row []int) {
		checkRow(t, v, p, row)
		if len(row) == most {
			return
		}
		for _, n := range some {
			longer(append(row, n))
		}
	}
	longer(nil)
}

// several are vocabularies whose merges stand in several kinds of order.
func several(t *testing.T) map[string]api.Vocab {
	t.Helper()
	some := rand.New(rand.NewSource(31))
	mixed := sample.Rows("ab", "bc", "abc", "ca", "aa", "bca")
	ranks := some.Perm(300)
	for n := range mixed {
		mixed[n].Rank = ranks[n]
	}
	far := sample.ByPairs(sample.Tables("b+c", "a+b", "ab+c", "a+a"))
	for n, order := range []int{0, 1, 1<<20 - 1, 1 << 20} {
		far.Merges[n].Order = order
	}
	return map[string]api.Vocab{
		"ranks":             sample.ByRank(sample.Rows("ab", "bc", "abc", "ca", "aa", "bca"), api.Special{Name: "end", ID: 262}),
		"ranks, long first": sample.ByRank(sample.Rows("abca", "abc", "bca", "ca", "bc", "ab")),
		"ranks, mixed":      sample.ByRank(mixed),
		"pairs":             sample.ByPairs(sample.Tables("a+b", "b+c", "ab+c", "c+a", "a+a"), api.Special{Name: "end", ID: 300}),
		"pairs, long first": sample.ByPairs(sample.Tables("aba+b", "ab+a", "ab+c", "a+b", "b+c", "c+a")),
		"pairs of one out":  sample.ByPairs(sample.Tables("a+bc", "ab+c", "b+c", "a+b", "a+a", "aa+a", "a+aa")),
		"orders far apart":  far,
		"no merges":         sample.ByRank(sample.Rows()),
	}
}

// P10.1 and P10.2: the chapter's examples, and others like them.
func TestAsSaid(t *testing.T) {
	v := sample.ByPairs(sample.Tables("a+b", "b+c", "c+c", "cc+c", "ab+ab"))
	p := tableOf(t, v)
	for from, to := range map[string]string{
		"": "", "a": "a", "ab": "ab", "a b c": "ab c", "b c b": "bc b", "b a": "b a", "a b": "ab", "b b c": "b bc", "a c b": "a c b",
		"c c c c": "cc cc", "c c c": "ccc", "cc cc": "cc cc", "c cc": "c cc", "c c c c c": "cc ccc", "a b a b a b": "abab ab", "a bc": "a bc", "b c c": "bc c", "z a b z": "z ab z",
	} {
		if got, want := p.Run(numbers(v, from)), numbers(v, to); !slices.Equal(got, want) {
			t.Errorf("Run of %q = %v; want %v, %q", from, got, want, to)
		}
		checkRow(t, v, p, numbers(v, from))
	}
	if m, ok := p.Find('a', 'b'); !ok || m != (api.Merge{Left: 'a', Right: 'b', Out: 256, Order: 0}) {
		t.Error("Find of a, b:", m, ok)
	}
	if at, m, ok := p.Best(numbers(v, "c c b c a b")); at != 4 || !ok || m != (api.Merge{Left: 'a', Right: 'b', Out: 256, Order: 0}) {
		t.Error("Best:", at, m, ok)
	}
	if row, ok := p.Step(numbers(v, "a b b c a b")); !ok || !slices.Equal(row, numbers(v, "ab b c a b")) {
		t.Error("Step:", row, ok)
	}
	if row, ok := p.Step(numbers(v, "c b a")); ok || len(row) != 0 {
		t.Error("Step where none can be done:", row, ok)
	}
}

// P10.1: of several of the least order the first ones merge, whatever their numbers are: by Left the others would be less.
func TestFirstOfOneOrder(t *testing.T) {
	v := sample.ByRank(sample.Rows("ab", "bc", "abc"))
	p := tableOf(t, v)
	for _, c := range []struct {
		row string
		at  int
		out []int
	}{
		{"ab c a bc", 0, []int{258, 'a', 257}}, {"a bc ab c", 0, []int{258, 256, 'c'}}, {"z ab c a bc", 1, []int{'z', 258, 'a', 257}},
		{"a b a b", 0, []int{256, 'a', 'b'}}, {"c a b c a b", 1, []int{'c', 256, 'c', 'a', 'b'}}, {"ab c a bc a b", 4, []int{256, 'c', 'a', 257, 256}},
	} {
		row := numbers(v, c.row)
		if at, m, ok := p.Best(row); at != c.at || !ok || m.Left != row[c.at] || m.Right != row[c.at+1] {
			t.Errorf("Best of %q = %d, %v, %v; want %d", c.row, at, m, ok, c.at)
		}
		if next, ok := p.Step(row); !ok || !slices.Equal(next, c.out) {
			t.Errorf("Step of %q = %v, %v; want %v", c.row, next, ok, c.out)
		}
		checkRow(t, v, p, row)
	}
}

// P10.1: a merge of a lower order, which another one makes possible, comes ahead of others of that one's order.
func TestLowerOrderBehindHigher(t *testing.T) {
	v := sample.ByPairs(sample.Tables("ab+a", "a+b", "b+a"))
	p := tableOf(t, v)
	for from, to := range map[string]string{"a b a b": "aba b", "a b a b a b": "aba b ab", "a b a b a": "aba ba", "b a b a": "b aba", "a b b a b a": "ab b aba"} {
		if got, want := p.Run(numbers(v, from)), numbers(v, to); !slices.Equal(got, want) {
			t.Errorf("Run of %q = %v; want %v, %q", from, got, want, to)
		}
	}
}

// P10.1: the merge of any two numbers, of which only a few have one.
func TestFind(t *testing.T) {
	for what, v := range several(t) {
		p := tableOf(t, v)
		count := 0
		for left := -2; left < len(v.Tokens)+2; left++ {
			for right := -2; right < len(v.Tokens)+2; right++ {
				m, ok := p.Find(left, right)
				if ok {
					count++
				}
				if ok && (m.Left != left || m.Right != right) || !ok && m != (api.Merge{}) {
					t.Errorf("%s: Find(%d, %d) = %v, %v", what, left, right, m, ok)
				}
			}
		}
		if count != len(v.Merges) {
			t.Errorf("%s: %d merges; want %d", what, count, len(v.Merges))
		}
		for _, want := range v.Merges {
			if m, ok := p.Find(want.Left, want.Right); !ok || m != want {
				t.Errorf("%s: Find(%d, %d) = %v, %v; want %v", what, want.Left, want.Right, m, ok, want)
			}
		}
	}
}

// P10.1: numbers that no token has, or only a special, merge with nothing, even if they make up a merge's when laid together.
func TestNumbersOfNone(t *testing.T) {
	v := sample.ByRank(sample.Rows("ab", "bc", "abc", ""), api.Special{Name: "end", ID: 300})
	p := tableOf(t, v)
	wrong := []int{-1, -97, 259, 260, 300, 301, 4095, 4096, 97 + 256, 97 + 4096, 98 - 4096, 97 + 1<<16, 97 + 1<<20, 97 + 1<<32, 98 + 1<<32, 98 - 1<<32, 97*4096 + 98, 97<<32 + 98, math.MaxInt, math.MinInt, math.MaxInt32, math.MinInt32}
	for _, x := range wrong {
		for _, y := range slices.Concat(wrong, []int{0, 96, 97, 98, 99, 256, 257, 258}) {
			for _, both := range [][]int{{x, y}, {y, x}} {
				if m, ok := p.Find(both[0], both[1]); ok || m != (api.Merge{}) {
					t.Errorf("Find%v = %v, %v; want none", both, m, ok)
				}
				if at, m, ok := p.Best(both); ok || at != 0 || m != (api.Merge{}) {
					t.Errorf("Best(%v) = %d, %v, %v; want none", both, at, m, ok)
				}
				if end := p.Run(both); !slices.Equal(end, both) {
					t.Errorf("Run(%v) = %v", both, end)
				}
			}
		}
		row := []int{x, 'a', 'b', x, 'b', 'c', x}
		if end := p.Run(row); !slices.Equal(end, []int{x, 256, x, 257, x}) {
			t.Errorf("Run(%v) = %v", row, end)
		}
	}
	for _, both := range [][]int{{96, 4096 + 98}, {96, 256 + 98}, {98, 98 - 4096}, {0, 97*4096 + 98}, {97*4096 + 98, 0}, {98, 97}} {
		if m, ok := p.Find(both[0], both[1]); ok {
			t.Errorf("Find%v = %v; want none", both, m)
		}
	}
}

// P10.1 and P10.2: all short rows of tokens, of several vocabularies.
func TestAllShortRows(t *testing.T) {
	for what, v := range several(t) {
		t.Run(what, func(t *testing.T) {
			some := numbers(v, "a b c ab bc")
			checkAllRows(t, v, slices.DeleteFunc(some, func(n int) bool { return n < 0 }), 5)
			checkAllRows(t, v, numbers(v, "a b c"), 7)
			checkAllRows(t, v, slices.Concat(numbers(v, "a b"), []int{-1, 290, math.MaxInt}), 4)
		})
	}
}

// P10.1 and P10.2: longer rows of all of a vocabulary's numbers, and a few of none.
func TestManyRows(t *testing.T) {
	some := rand.New(rand.NewSource(32))
	for what, v := range several(t) {
		t.Run(what, func(t *testing.T) {
			p := tableOf(t, v)
			merged := slices.Concat(numbers(v, "a b c a b c a"), []int{-1, 290})
			for _, m := range v.Merges {
				merged = append(merged, m.Out, m.Left, m.Right)
			}
			for range 400 {
				row := make([]int, some.Intn(60))
				for n := range row {
					row[n] = merged[some.Intn(len(merged))]
					if some.Intn(20) == 0 {
						row[n] = some.Intn(len(v.Tokens)+4) - 2
					}
				}
				checkRow(t, v, p, row)
			}
		})
	}
}

// P10.2: the end of bytes tells these bytes, whatever they are, in no more tokens, and can't be merged further.
func TestBytesStay(t *testing.T) {
	some := rand.New(rand.NewSource(33))
	v := sample.ByRank(sample.Rows("\xc3\xa4", "\x00\x00", "\xff\x00", "\x00\xff", "\xc3\xa4\x00", "ab", "\x00\x00\x00\xff"))
	p := tableOf(t, v)
	for range 500 {
		var bytes []byte
		var row []int
		for range some.Intn(40) {
			b := []byte("\x00\x00\xff\xc3\xa4ab")[some.Intn(7)]
			bytes, row = append(bytes, b), append(row, int(b))
		}
		end := p.Run(row)
		if told(v, end) != string(bytes) || len(end) > len(bytes) {
			t.Errorf("Run(%v) = %v", row, end)
		}
		if _, ok := p.Step(end); ok {
			t.Errorf("Run(%v) = %v: there is a step", row, end)
		}
		if again := p.Run(end); !slices.Equal(again, end) {
			t.Errorf("Run(%v) = %v", end, again)
		}
		checkRow(t, v, p, row)
	}
}

// P10.1: each step is one merge, and the last of them is the end.
func TestStepsLeadToTheEnd(t *testing.T) {
	v := sample.ByRank(sample.Rows("aa", "aaaa", "aaa", "ab", "aab"))
	p := tableOf(t, v)
	row := slices.Repeat(numbers(v, "a a a a b a a"), 9)
	end, steps := p.Run(row), 0
	for next, ok := p.Step(row); ok; next, ok = p.Step(row) {
		if len(next) != len(row)-1 {
			t.Fatalf("Step(%v) = %v", row, next)
		}
		row = next
		steps++
	}
	if !slices.Equal(row, end) || steps != 63-len(end) {
		t.Errorf("%d steps to %v; want %v", steps, row, end)
	}
}

// P10.1: long rows have an end, too.
func TestLongRows(t *testing.T) {
	v := sample.ByRank(sample.Rows("aa", "aaaa", "aaaaaaaa"))
	p := tableOf(t, v)
	for _, n := range []int{1023, 1024, 4096, 4097} {
		want := slices.Repeat([]int{258}, n/8)
		for _, more := range []struct{ n, out int }{{4, 257}, {2, 256}, {1, 'a'}} {
			if n&more.n > 0 {
				want = append(want, more.out)
			}
		}
		if end := p.Run(slices.Repeat([]int{'a'}, n)); !slices.Equal(end, want) {
			t.Errorf("%d of a: %d tokens; want %d", n, len(end), len(want))
		}
	}
	long := slices.Repeat([]int{'x', -1, 'a', 1 << 40}, 1<<18)
	if end := p.Run(long); !slices.Equal(end, long) {
		t.Error("a long row without merges has changed")
	}
	long = append(long, 'a', 'a')
	if at, m, ok := p.Best(long); !ok || at != 1<<20 || m.Out != 256 {
		t.Error("Best of a long row:", at, m, ok)
	}
}

// P10.1: a table of as many merges as a vocabulary may have.
func TestMostMerges(t *testing.T) {
	v := sample.Full()
	p := tableOf(t, v)
	for _, want := range v.Merges {
		if m, ok := p.Find(want.Left, want.Right); !ok || m != want {
			t.Errorf("Find(%d, %d) = %v, %v; want %v", want.Left, want.Right, m, ok, want)
		}
	}
	row := numbers(v, strings.Repeat("A ", 100)+"x y z x B B C Z Z Z")
	checkRow(t, v, p, row)
}

// P10.1: there is a table of each vocabulary that may be, at the edges of its limits, too.
func TestNew(t *testing.T) {
	good := several(t)
	good["full"] = sample.Full()
	for what, v := range good {
		old := sample.Clone(v)
		if p, err := pair.New(v); p == nil || err != api.OK {
			t.Errorf("%s: %v, %d", what, p, err)
		}
		if !slices.Equal(v.Tokens, old.Tokens) || !slices.Equal(v.Merges, old.Merges) || !slices.Equal(v.Specials, old.Specials) {
			t.Errorf("%s: New has changed the vocabulary", what)
		}
	}
}

// P10.1: there is none of a vocabulary that may not be.
func TestNewWrong(t *testing.T) {
	for what, v := range sample.Wrong() {
		if p, err := pair.New(v); p != nil || err != api.ErrForm {
			t.Errorf("%s: %v, %d; want nil, %d", what, p, err, api.ErrForm)
		}
	}
	if p, err := pair.New(sample.Good()); p == nil || err != api.OK {
		t.Error("unchanged:", err)
	}
}

// P10.1: of a nil table nothing merges, and a row's end is the row, in new memory.
func TestNil(t *testing.T) {
	var p *pair.Table
	for _, row := range [][]int{nil, {}, {'a'}, {'a', 'b'}, {-1, math.MaxInt, math.MinInt}, slices.Repeat([]int{0}, 1000)} {
		if at, m, ok := p.Best(row); ok || at != 0 || m != (api.Merge{}) {
			t.Errorf("Best(%v) = %d, %v, %v", row, at, m, ok)
		}
		if next, ok := p.Step(row); ok || len(next) != 0 {
			t.Errorf("Step(%v) = %v, %v", row, next, ok)
		}
		end := p.Run(row)
		if !slices.Equal(end, row) {
			t.Errorf("Run(%v) = %v", row, end)
		}
		for n := range end {
			end[n] = 7
			if row[n] == 7 {
				t.Errorf("Run(%v) shares its row", row)
			}
		}
	}
	for _, both := range [][2]int{{'a', 'b'}, {0, 0}, {-1, math.MinInt}, {math.MaxInt, 97}} {
		if m, ok := p.Find(both[0], both[1]); ok || m != (api.Merge{}) {
			t.Errorf("Find%v = %v, %v", both, m, ok)
		}
	}
}

// P10.1: rows of none and of one number have no step.
func TestShortest(t *testing.T) {
	v := sample.ByRank(sample.Rows("ab"))
	p := tableOf(t, v)
	for _, row := range [][]int{nil, {}, {'a'}, {256}, {-1}, {math.MaxInt}} {
		if _, _, ok := p.Best(row); ok {
			t.Errorf("Best(%v)", row)
		}
		if _, ok := p.Step(row); ok {
			t.Errorf("Step(%v)", row)
		}
		if end := p.Run(row); !slices.Equal(end, row) {
			t.Errorf("Run(%v) = %v", row, end)
		}
	}
	if row, ok := p.Step([]int{'a', 'b'}); !ok || !slices.Equal(row, []int{256}) {
		t.Error("Step of a, b:", row, ok)
	}
}

// P10.1: a table keeps nothing of the vocabulary that was handed in.
func TestVocabularyApart(t *testing.T) {
	v := sample.ByRank(sample.Rows("ab", "bc", "abc"))
	p := tableOf(t, v)
	old := sample.Clone(v)
	for n := range v.Merges {
		v.Merges[n] = api.Merge{Left: 'x', Right: 'y', Out: 5, Order: 1}
	}
	for n := range v.Tokens {
		v.Tokens[n] = "other"
	}
	if m, ok := p.Find('x', 'y'); ok {
		t.Error("Find has changed:", m)
	}
	for _, m := range old.Merges {
		if got, ok := p.Find(m.Left, m.Right); !ok || got != m {
			t.Errorf("Find(%d, %d) = %v, %v; want %v", m.Left, m.Right, got, ok, m)
		}
	}
	checkRow(t, old, p, numbers(old, "a b c b c a b"))
}

// P10.1: rows that are handed in stay, behind their ends, too, and share nothing with those that are answered.
func TestRowsApart(t *testing.T) {
	v := sample.ByRank(sample.Rows("ab", "bc", "abc"))
	p := tableOf(t, v)
	for _, tokens := range []string{"a b c b c a", "c b a", "a", "a b", "c c a b", "b c z z z"} {
		all := append(numbers(v, tokens), 'a', 'b', 'c')
		old := slices.Clone(all)
		row := all[:len(all)-3]
		want := p.Run(row)
		next, _ := p.Step(row)
		end := p.Run(row)
		for _, answer := range [][]int{next, end} {
			for n := range answer {
				answer[n] = -7
			}
			_ = append(answer, -8, -9)
		}
		if !slices.Equal(all, old) {
			t.Errorf("%v has become %v", old, all)
		}
		for n := range row {
			row[n] = -5
		}
		if slices.Contains(end, -5) || slices.Contains(next, -5) || slices.Contains(want, -5) || slices.Contains(want, -7) {
			t.Errorf("%q: answers share memory: %v, %v, %v", tokens, next, end, want)
		}
	}
}

// P10.1: what was asked ahead changes nothing, nor does another table of the same vocabulary.
func TestSameAgain(t *testing.T) {
	for what, v := range several(t) {
		p, q := tableOf(t, v), tableOf(t, v)
		row := numbers(v, "a b c a a b c c a b b c a")
		end := p.Run(row)
		for range 20 {
			p.Step(row[1:])
			p.Run(row[2:])
			p.Find(-1, 5)
			if again, other := p.Run(row), q.Run(row); !slices.Equal(end, again) || !slices.Equal(end, other) {
				t.Errorf("%s: %v, %v, %v", what, end, again, other)
			}
		}
	}
}
