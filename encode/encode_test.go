package encode_test

import (
	"fmt"
	"math/rand"
	"slices"
	"strings"
	"testing"

	"footbridge/api"
	"footbridge/encode"
	"footbridge/pair"
	"footbridge/sample"
)

// mixed are the same rows, with their ranks dealt out anew among more than there are rows.
func mixed(some *rand.Rand, rows []api.Row, among int) []api.Row {
	ranks := some.Perm(among)
	for n := range rows {
		rows[n].Rank = ranks[n]
	}
	return rows
}

func coderOf(t *testing.T, v api.Vocab) *encode.Coder {
	t.Helper()
	c, err := encode.New(v)
	if c == nil || err != api.OK {
		t.Fatal("New:", err)
	}
	return c
}

// numbers are those of tokens that are told with blanks between.
func numbers(v api.Vocab, tokens string) []int {
	var row []int
	for _, s := range strings.Fields(tokens) {
		row = append(row, slices.Index(v.Tokens, s))
	}
	return row
}

// joined are the bytes of tokens, one behind the other.
func joined(v api.Vocab, row []int) string {
	var b strings.Builder
	for _, n := range row {
		b.WriteString(v.Tokens[n])
	}
	return b.String()
}

// words says of bytes what the chapters do, step by step.
type words struct {
	v      api.Vocab
	merges map[[2]int]api.Merge
}

func wordsOf(v api.Vocab) words {
	w := words{v: sample.Clone(v), merges: map[[2]int]api.Merge{}}
	for _, m := range v.Merges {
		w.merges[[2]int{m.Left, m.Right}] = m
	}
	return w
}

// step does a step: of all that could merge, that of the least order, and of several such the first.
func (w words) step(row []int) ([]int, bool) {
	at, best := -1, api.Merge{}
	for n := range max(0, len(row)-1) {
		if m, ok := w.merges[[2]int{row[n], row[n+1]}]; ok && (at < 0 || m.Order < best.Order) {
			at, best = n, m
		}
	}
	if at < 0 {
		return nil, false
	}
	return slices.Concat(row[:at], []int{best.Out}, row[at+2:]), true
}

func (w words) encode(b []byte) []int {
	var row []int
	for n := range b {
		row = append(row, slices.Index(w.v.Tokens, string(b[n:n+1])))
	}
	for next, ok := w.step(row); ok; next, ok = w.step(row) {
		row = next
	}
	return row
}

func (w words) dead() []int {
	var dead []int
	for n, token := range w.v.Tokens {
		if token != "" && !slices.Equal(w.encode([]byte(token)), []int{n}) {
			dead = append(dead, n)
		}
	}
	return dead
}

// both is a coder, beside what the chapters say.
type both struct {
	*testing.T
	c *encode.Coder
	w words
}

func bothOf(t *testing.T, v api.Vocab) both {
	t.Helper()
	return both{T: t, c: coderOf(t, v), w: wordsOf(v)}
}

// encode holds the tokens of bytes against the chapter's words.
func (x both) encode(b []byte) []int {
	x.Helper()
	old := slices.Clone(b)
	got := x.c.Encode(b)
	if want := x.w.encode(old); !slices.Equal(got, want) {
		x.Errorf("Encode(%q) = %v; want %v", old, got, want)
	}
	if !slices.Equal(b, old) {
		x.Errorf("Encode: %q has become %q", old, b)
	}
	return got
}

// stay says that the tokens of bytes have these bytes, and are no more of them.
func (x both) stay(b []byte, got []int) {
	x.Helper()
	if told := joined(x.w.v, got); told != string(b) || len(got) > len(b) {
		x.Errorf("Encode(%q) = %v, which tells %q", b, got, told)
	}
}

// cut cuts bytes where their tokens end, and ahead of all.
func (x both) cut(b []byte, got []int) {
	x.Helper()
	at := 0
	for n := range len(got) + 1 {
		left, right := x.c.Encode(b[:at]), x.c.Encode(b[at:])
		if !slices.Equal(left, got[:n]) || !slices.Equal(right, got[n:]) {
			x.Errorf("Encode(%q) = %v; of the first %d bytes %v, of the others %v", b, got, at, left, right)
		}
		if n < len(got) {
			at += len(x.w.v.Tokens[got[n]])
		}
	}
}

func (x both) check(b []byte) {
	x.Helper()
	got := x.encode(b)
	x.stay(b, got)
	x.cut(b, got)
}

// checkDead holds the dead tokens against the chapter's words.
func (x both) checkDead() {
	x.Helper()
	got := x.c.Dead()
	if want := x.w.dead(); !slices.Equal(got, want) {
		x.Errorf("Dead() = %v; want %v", got, want)
	}
	if !slices.IsSorted(got) {
		x.Errorf("Dead() = %v: doesn't rise", got)
	}
}

// checkAll goes through all texts of some bytes, up to so many of them.
func (x both) checkAll(some string, most int) {
	x.Helper()
	var longer func(b []byte)
	longer = func(b []byte) {
		x.check(b)
		if len(b) == most {
			return
		}
		for n := range len(some) {
			longer(append(b, some[n]))
		}
	}
	longer(nil)
}

// checkSome goes through some longer texts of bytes and tokens.
func (x both) checkSome(some *rand.Rand, of string, count, most int) {
	x.Helper()
	var longer []string
	for _, token := range x.w.v.Tokens {
		if len(token) > 1 {
			longer = append(longer, token)
		}
	}
	for range count {
		var b []byte
		for size := some.Intn(most); len(b) < size; {
			if len(longer) > 0 && some.Intn(3) == 0 {
				b = append(b, longer[some.Intn(len(longer))]...)
			} else {
				b = append(b, of[some.Intn(len(of))])
			}
		}
		x.check(b)
	}
}

// several are vocabularies whose merges stand in several kinds of order.
func several(t *testing.T) map[string]api.Vocab {
	t.Helper()
	some := rand.New(rand.NewSource(141))
	far := sample.ByPairs(sample.Tables("b+c", "a+b", "ab+c", "a+a"))
	for n, order := range []int{0, 1, 1<<20 - 1, 1 << 20} {
		far.Merges[n].Order = order
	}
	return map[string]api.Vocab{
		"ranks":             sample.ByRank(sample.Rows("ab", "bc", "abc", "ca", "aa", "bca"), api.Special{Name: "end", ID: 262}),
		"ranks, long first": sample.ByRank(sample.Rows("abca", "abc", "bca", "ca", "bc", "ab")),
		"ranks, mixed":      sample.ByRank(mixed(some, sample.Rows("ab", "bc", "abc", "ca", "aa", "bca"), 300)),
		"pairs":             sample.ByPairs(sample.Tables("a+b", "b+c", "ab+c", "c+a", "a+a"), api.Special{Name: "end", ID: 300}),
		"pairs, long first": sample.ByPairs(sample.Tables("aba+b", "ab+a", "ab+c", "a+b", "b+c", "c+a")),
		"pairs of one out":  sample.ByPairs(sample.Tables("a+bc", "ab+c", "b+c", "a+b", "a+a", "aa+a", "a+aa")),
		"orders far apart":  far,
		"no merges":         sample.ByRank(sample.Rows()),
	}
}

// grown are tokens, each of two that were there ahead of it, in no order.
func grown(some *rand.Rand, count, most int) []string {
	all := []string{"a", "b", "c"}
	for range 20 * count {
		token := all[some.Intn(len(all))] + all[some.Intn(len(all))]
		if len(token) <= most && !slices.Contains(all, token) && len(all) < count+3 {
			all = append(all, token)
		}
	}
	more := all[3:]
	some.Shuffle(len(more), func(i, j int) { more[i], more[j] = more[j], more[i] })
	return more
}

// pairsOf are all pairs that make these tokens, in no order, but not all of them, where a token has several.
func pairsOf(some *rand.Rand, tokens []string) []string {
	var pairs []string
	for _, token := range tokens {
		var ways []string
		for at := 1; at < len(token); at++ {
			left, right := token[:at], token[at:]
			if (len(left) == 1 || slices.Contains(tokens, left)) && (len(right) == 1 || slices.Contains(tokens, right)) {
				ways = append(ways, left+"+"+right)
			}
		}
		some.Shuffle(len(ways), func(i, j int) { ways[i], ways[j] = ways[j], ways[i] })
		pairs = append(pairs, ways[:1+some.Intn(len(ways))]...)
	}
	some.Shuffle(len(pairs), func(i, j int) { pairs[i], pairs[j] = pairs[j], pairs[i] })
	return pairs
}

// P14.1: the chapter's examples, and others like them.
func TestAsSaid(t *testing.T) {
	for _, c := range []struct {
		pairs []string
		to    map[string]string
		dead  string
	}{
		{[]string{"a+b", "b+c", "ab+c"}, map[string]string{"abc": "abc", "bc": "bc", "aabcb": "a abc b", "abbc": "ab bc"}, ""},
		{[]string{"b+c", "a+b", "c+d", "ab+cd"}, map[string]string{"abcd": "a bc d", "abxcd": "ab x cd", "cdab": "cd ab", "bcd": "bc d"}, "abcd"},
		{[]string{"a+b", "b+c", "c+d", "ab+cd"}, map[string]string{"abcd": "abcd", "abcdabcd": "abcd abcd", "bcd": "bc d"}, ""},
		{[]string{"b+c", "a+b", "ab+c"}, map[string]string{"abc": "a bc", "ab": "ab", "abab": "ab ab"}, "abc"},
		{[]string{"b+c", "a+b", "ab+c", "a+bc"}, map[string]string{"abc": "abc"}, ""},
		{[]string{"ab+a", "a+b", "b+a"}, map[string]string{"abab": "aba b", "ababa": "aba ba", "baba": "b aba", "ababab": "aba b ab"}, ""},
		{[]string{"a+a", "aa+aa"}, map[string]string{"aaa": "aa a", "aaaa": "aaaa", "aaaaaaa": "aaaa aa a", "baab": "b aa b"}, ""},
	} {
		v := sample.ByPairs(sample.Tables(c.pairs...))
		x := bothOf(t, v)
		for from, to := range c.to {
			if got, want := x.c.Encode([]byte(from)), numbers(v, to); !slices.Equal(got, want) {
				t.Errorf("%v: Encode(%q) = %v; want %v, %q", c.pairs, from, got, want, to)
			}
			x.check([]byte(from))
		}
		if got, want := x.c.Dead(), numbers(v, c.dead); !slices.Equal(got, want) {
			t.Errorf("%v: Dead() = %v; want %v", c.pairs, got, want)
		}
	}
}

// P14.1: of several of one order the first two merge.
func TestFirstOfOneOrder(t *testing.T) {
	v := sample.ByPairs(sample.Tables("b+a", "c+c", "cc+cc"))
	x := bothOf(t, v)
	for _, c := range []struct{ from, to string }{
		{"ababa", "a ba ba"}, {"aba", "a ba"}, {"ccc", "cc c"}, {"cccccc", "cccc cc"}, {"ccccc", "cccc c"}, {"dcccd", "d cc c d"},
	} {
		if got, want := x.c.Encode([]byte(c.from)), numbers(v, c.to); !slices.Equal(got, want) {
			t.Errorf("Encode(%q) = %v; want %v, %q", c.from, got, want, c.to)
		}
		x.check([]byte(c.from))
	}
}

// P14.1: a byte's number is that of its token, wherever that stands, and no bytes have no tokens.
func TestBytesAlone(t *testing.T) {
	some := rand.New(rand.NewSource(142))
	for _, rows := range [][]api.Row{sample.Rows(), mixed(some, sample.Rows(), 256), mixed(some, sample.Rows("ab", "bc"), 4096)} {
		v := sample.ByRank(rows)
		c := coderOf(t, v)
		var all []byte
		var want []int
		for b := range 256 {
			one := []byte{byte(255 - b)}
			number := slices.Index(v.Tokens, string(one))
			if got := c.Encode(one); !slices.Equal(got, []int{number}) {
				t.Errorf("Encode(%q) = %v; want %d", one, got, number)
			}
			// Downwards no two of them merge.
			all, want = append(all, one...), append(want, number)
		}
		if got := c.Encode(all); !slices.Equal(got, want) {
			t.Errorf("Encode of all bytes = %v; want %v", got, want)
		}
		for _, none := range [][]byte{nil, {}} {
			if got := c.Encode(none); len(got) != 0 {
				t.Errorf("Encode of no bytes = %v", got)
			}
		}
	}
}

// P14.1 to P14.3: all short texts, by several vocabularies.
func TestAllShortTexts(t *testing.T) {
	for what, v := range several(t) {
		t.Run(what, func(t *testing.T) {
			x := bothOf(t, v)
			x.checkAll("abc", 7)
			x.checkAll("ab", 10)
			x.checkAll("ab\x00\xff", 4)
			x.checkDead()
		})
	}
}

// P14.1 to P14.3: longer texts, by several vocabularies.
func TestManyTexts(t *testing.T) {
	some := rand.New(rand.NewSource(143))
	for what, v := range several(t) {
		t.Run(what, func(t *testing.T) {
			bothOf(t, v).checkSome(some, "aaabbbcccx", 200, 60)
		})
	}
}

// P14.1 to P14.3: vocabularies with many tokens, by rank and by pairs, of which many are dead.
func TestManyVocabularies(t *testing.T) {
	some := rand.New(rand.NewSource(144))
	dead, live := 0, 0
	for round := range 120 {
		tokens := grown(some, 1+some.Intn(40), 2+some.Intn(9))
		tables := sample.Tables(pairsOf(some, tokens)...)
		kinds := map[string]api.Vocab{
			"ranks":        sample.ByRank(sample.Rows(tokens...)),
			"ranks, mixed": sample.ByRank(mixed(some, sample.Rows(tokens...), 400)),
			"pairs":        sample.ByPairs(tables),
		}
		for what, v := range kinds {
			t.Run(fmt.Sprintf("%d, %s", round, what), func(t *testing.T) {
				x := bothOf(t, v)
				x.checkSome(some, "abc", 25, 40)
				x.checkDead()
				dead += len(x.w.dead())
				live += len(tokens) - len(x.w.dead())
			})
		}
	}
	if dead < 100 || live < 100 {
		t.Errorf("%d dead tokens, %d others: not enough to tell", dead, live)
	}
}

// P14.2: the tokens of bytes have these bytes, whatever they are, and are no more of them.
func TestBytesStay(t *testing.T) {
	some := rand.New(rand.NewSource(145))
	v := sample.ByRank(mixed(some, sample.Rows("\xc3\xa4", "\x00\x00", "\xff\x00", "\x00\xff", "\xc3\xa4\x00", "ab", "\x00\x00\x00\xff"), 300))
	x := bothOf(t, v)
	for range 500 {
		var b []byte
		for range some.Intn(40) {
			b = append(b, "\x00\x00\xff\xc3\xa4ab"[some.Intn(7)])
		}
		x.stay(b, x.encode(b))
	}
	for range 100 {
		b := make([]byte, some.Intn(300))
		for n := range b {
			b[n] = byte(some.Intn(256))
		}
		x.stay(b, x.encode(b))
	}
}

// P14.3: what was cut where tokens end can be cut again, until each token stands alone.
func TestCutToSingleTokens(t *testing.T) {
	some := rand.New(rand.NewSource(146))
	for what, v := range several(t) {
		x := bothOf(t, v)
		for range 50 {
			b := make([]byte, some.Intn(50))
			for n := range b {
				b[n] = "aabbcc"[some.Intn(6)]
			}
			got := x.encode(b)
			x.cut(b, got)
			for _, n := range got {
				if alone := x.c.Encode([]byte(v.Tokens[n])); !slices.Equal(alone, []int{n}) {
					t.Errorf("%s: Encode(%q) = %v, but of its token %q, alone, %v", what, b, got, v.Tokens[n], alone)
				}
			}
		}
	}
}

// P14.1: the tokens of bytes are the end that layer 10 tells, in longer texts, too.
func TestAsLayer10(t *testing.T) {
	some := rand.New(rand.NewSource(147))
	for what, v := range several(t) {
		c := coderOf(t, v)
		p, _ := pair.New(v)
		b := make([]byte, 1500)
		row := make([]int, len(b))
		for n := range b {
			b[n] = "aabbccx"[some.Intn(7)]
			row[n] = slices.Index(v.Tokens, string(b[n:n+1]))
		}
		if got, want := c.Encode(b), p.Run(row); !slices.Equal(got, want) {
			t.Errorf("%s: Encode(%q) = %v; want %v", what, b, got, want)
		}
	}
}

// P14.1: as many bytes as a text may have, and more.
func TestLongTexts(t *testing.T) {
	v := sample.ByRank(sample.Rows("aa", "aaaa", "aaaaaaaa"))
	c := coderOf(t, v)
	for _, n := range []int{1023, 4096, 65535, 65536, 65537, 200003} {
		want := slices.Repeat([]int{258}, n/8)
		for _, more := range []struct{ n, out int }{{4, 257}, {2, 256}, {1, 'a'}} {
			if n&more.n > 0 {
				want = append(want, more.out)
			}
		}
		if got := c.Encode([]byte(strings.Repeat("a", n))); !slices.Equal(got, want) {
			t.Errorf("%d of a: %d tokens; want %d", n, len(got), len(want))
		}
		if got := c.Encode([]byte(strings.Repeat("x", n))); !slices.Equal(got, slices.Repeat([]int{'x'}, n)) {
			t.Errorf("%d of x: %d tokens", n, len(got))
		}
	}
}

// P14.1 to P14.3: a vocabulary with as many tokens and merges as may be.
func TestFullVocabulary(t *testing.T) {
	v := sample.Full()
	x := bothOf(t, v)
	for _, s := range []string{"AAAAA", strings.Repeat("A", 100) + "xyzxB", strings.Repeat("Z", 47), strings.Repeat("H", 64) + strings.Repeat("G", 65), "xyzxyzx"} {
		x.check([]byte(s))
	}
	x.checkDead()
}

// P14.1: a chain of merges, each by one byte, up to the longest token, from the left and from the right.
func TestLongestToken(t *testing.T) {
	const signs = "abcdefghijklmnopqrstuvwxyzABCDEFGHIJKLMNOPQRSTUVWXYZ0123456789-_"
	for what, link := range map[string]func(n int) string{
		"from the left":  func(n int) string { return signs[:n-1] + "+" + signs[n-1:n] },
		"from the right": func(n int) string { return signs[64-n:65-n] + "+" + signs[65-n:] },
	} {
		var pairs []string
		for n := 2; n <= 64; n++ {
			pairs = append(pairs, link(n))
		}
		for range 2 {
			v := sample.ByPairs(sample.Tables(pairs...))
			x := bothOf(t, v)
			if got := x.c.Encode([]byte(signs)); !slices.Equal(got, numbers(v, signs)) {
				t.Errorf("%s: %v", what, got)
			}
			x.check([]byte(signs + signs[1:] + signs[:63] + signs))
			x.checkDead()
			slices.Reverse(pairs)
		}
	}
}

// P14.1: the dead tokens of hand-made vocabularies; neither bytes, nor specials, nor numbers of none are among them.
func TestDead(t *testing.T) {
	for _, c := range []struct {
		name, dead string
		v          api.Vocab
	}{
		{"none", "", sample.ByRank(sample.Rows())},
		{"by rank", "", sample.ByRank(sample.Rows("ab", "abc", "bc"))},
		{"by rank, a middle first", "abcd", sample.ByRank(sample.Rows("bc", "ab", "cd", "abcd"))},
		{"long ones first", "", sample.ByRank(sample.Rows("abc", "bc", "ab", "xabc", "xa"))},
		{"several", "abc dabc", sample.ByPairs(sample.Tables("b+c", "a+b", "ab+c", "x+y", "d+abc"))},
		{"a part is dead", "abc abcabc", sample.ByPairs(sample.Tables("b+c", "a+b", "ab+c", "abc+abc"))},
		{"another way lives", "", sample.ByPairs(sample.Tables("b+c", "a+b", "ab+c", "a+bc"))},
		{"with specials", "abcd", sample.ByRank(sample.Rows("bc", "ab", "", "cd", "abcd"), api.Special{Name: "a", ID: 258}, api.Special{Name: "end", ID: 900})},
	} {
		x := bothOf(t, c.v)
		want := numbers(c.v, c.dead)
		slices.Sort(want)
		if got := x.c.Dead(); !slices.Equal(got, want) {
			t.Errorf("%s: Dead() = %v; want %v", c.name, got, want)
		}
		x.checkDead()
	}
}

// P14.1: the numbers of dead tokens rise, wherever these stand.
func TestDeadRise(t *testing.T) {
	some := rand.New(rand.NewSource(148))
	for range 20 {
		tables := sample.Tables("b+c", "a+b", "c+d", "ab+cd", "cd+ab", "ab+c", "b+cd")
		mixed(some, tables.Rows, 600)
		v := sample.ByPairs(tables, api.Special{Name: "end", ID: 600})
		want := numbers(v, "abcd abc bcd")
		slices.Sort(want)
		x := bothOf(t, v)
		if got := x.c.Dead(); !slices.Equal(got, want) {
			t.Errorf("Dead() = %v; want %v", got, want)
		}
		x.checkDead()
	}
}

// P14.1: there is a coder of each vocabulary that may be, which stays as it is.
func TestNew(t *testing.T) {
	good := several(t)
	good["full"] = sample.Full()
	for what, v := range good {
		old := sample.Clone(v)
		if c, err := encode.New(v); c == nil || err != api.OK {
			t.Errorf("%s: %v, %d", what, c, err)
		}
		if !slices.Equal(v.Tokens, old.Tokens) || !slices.Equal(v.Merges, old.Merges) || !slices.Equal(v.Specials, old.Specials) {
			t.Errorf("%s: New has changed the vocabulary", what)
		}
	}
}

// P14.1: there is none of a vocabulary that may not be.
func TestNewWrong(t *testing.T) {
	for what, v := range sample.Wrong() {
		if c, err := encode.New(v); c != nil || err != api.ErrForm {
			t.Errorf("%s: %v, %d; want nil, %d", what, c, err, api.ErrForm)
		}
	}
	if c, err := encode.New(sample.Good()); c == nil || err != api.OK {
		t.Error("unchanged:", err)
	}
}

// P14.1: of a nil coder there are no tokens.
func TestNil(t *testing.T) {
	var c *encode.Coder
	for _, b := range []string{"", "a", "abc", strings.Repeat("\xff", 1000)} {
		if got := c.Encode([]byte(b)); len(got) != 0 {
			t.Errorf("Encode(%q) = %v", b, got)
		}
	}
	if got := c.Encode(nil); len(got) != 0 {
		t.Error("Encode(nil) =", got)
	}
	if got := c.Dead(); len(got) != 0 {
		t.Error("Dead() =", got)
	}
}

// P14.1: a coder keeps nothing of the vocabulary that was handed in.
func TestVocabularyApart(t *testing.T) {
	v := sample.ByPairs(sample.Tables("b+c", "a+b", "c+d", "ab+cd"))
	x := bothOf(t, v)
	for n := range v.Merges {
		v.Merges[n] = api.Merge{Left: 'x', Right: 'y', Out: 5, Order: 1}
	}
	for n := range v.Tokens {
		v.Tokens[n] = "other"
	}
	for _, s := range []string{"abcd", "abxcd", "xyxy", "other"} {
		x.check([]byte(s))
	}
	x.checkDead()
}

// P14.1: what is answered is new memory, and what is handed in stays, behind its end, too.
func TestAnswersApart(t *testing.T) {
	v := sample.ByPairs(sample.Tables("b+c", "a+b", "c+d", "ab+cd"))
	x := bothOf(t, v)
	all := []byte("abcdabxcd and so on")
	b := all[:9]
	for range 3 {
		for _, answer := range [][]int{x.encode(b), x.c.Dead()} {
			for n := range answer {
				answer[n] = -7
			}
			_ = append(answer, -8, -9)
		}
		x.check(b)
		x.checkDead()
	}
	if string(all) != "abcdabxcd and so on" {
		t.Errorf("the bytes have become %q", all)
	}
	got := x.c.Encode(b)
	old := slices.Clone(got)
	for n := range b {
		b[n] = 'z'
	}
	if !slices.Equal(got, old) {
		t.Errorf("%v has become %v", old, got)
	}
}

// P14.1: what was asked ahead changes nothing, nor does another coder of the same vocabulary.
func TestSameAgain(t *testing.T) {
	for what, v := range several(t) {
		c, d := coderOf(t, v), coderOf(t, v)
		b := []byte("abcaabccabbcaxbcab")
		first, dead := c.Encode(b), c.Dead()
		for n := range 20 {
			c.Encode(b[n%len(b):])
			c.Encode([]byte("ccc"))
			again, other := c.Encode(b), d.Encode(b)
			if !slices.Equal(first, again) || !slices.Equal(first, other) {
				t.Errorf("%s: %v, %v, %v", what, first, again, other)
			}
			if !slices.Equal(dead, c.Dead()) || !slices.Equal(dead, d.Dead()) {
				t.Errorf("%s: dead: %v, %v, %v", what, dead, c.Dead(), d.Dead())
			}
		}
	}
}
