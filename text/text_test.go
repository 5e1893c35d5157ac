package text_test

import (
	"fmt"
	"math"
	"math/rand"
	"slices"
	"strings"
	"testing"

	"footbridge/api"
	"footbridge/class"
	"footbridge/pair"
	"footbridge/sample"
	"footbridge/split"
	"footbridge/text"
)

var kinds = []int{api.None, api.Blank, api.Plain, api.Wide}

// far are symbols and tokens that none has, of which some would be one, if just their lower bits were taken.
var far = []int{-1, -2, 'a' - 256, -256, 1<<16 + 'a', 1<<32 + 'a', 1<<32 + 256, math.MinInt, math.MinInt + 'a', math.MinInt + 256, math.MaxInt}

// mixed are the same rows, with their ranks dealt out anew among more than there are rows, and 0 left out.
func mixed(some *rand.Rand, rows []api.Row, among int) []api.Row {
	ranks := some.Perm(among)
	for n := range rows {
		rows[n].Rank = 1 + ranks[n]
	}
	return rows
}

// row is a row of numbers, told by texts and numbers.
func row(parts ...any) []int {
	var l []int
	for _, part := range parts {
		switch x := part.(type) {
		case int:
			l = append(l, x)
		case rune:
			l = append(l, int(x))
		case string:
			for _, b := range []byte(x) {
				l = append(l, int(b))
			}
		}
	}
	return l
}

func isByte(symbol int) bool { return 0 <= symbol && symbol <= 255 }

// words says what the chapter does.
type words struct {
	v      api.Vocab
	names  []string
	kind   int
	table  []api.Range
	merges *pair.Table
	known  map[string][]int // what bytes come to, so that it isn't worked out each time
}

func (w words) fault(symbol int) api.Errno {
	if isByte(symbol) {
		return api.OK
	}
	for n, name := range w.names {
		if symbol == 256+n {
			for _, s := range w.v.Specials {
				if s.Name == name {
					return api.OK
				}
			}
			return api.ErrUnmapped
		}
	}
	return api.ErrArg
}

func (w words) check(text []int) api.Errno {
	for _, s := range text {
		if err := w.fault(s); err != api.OK {
			return err
		}
	}
	return api.OK
}

// piece are the tokens of one piece, and whether it is one of bytes.
func (w words) piece(text []int) ([]int, bool) {
	if len(text) == 0 || w.check(text) != api.OK {
		return nil, false
	}
	var alone []int
	var key strings.Builder
	for _, s := range text {
		if !isByte(s) {
			if len(text) != 1 {
				return nil, false
			}
			for _, special := range w.v.Specials {
				if special.Name == w.names[s-256] {
					return []int{special.ID}, false
				}
			}
		}
		b := string([]byte{byte(s)})
		key.WriteString(b)
		alone = append(alone, slices.Index(w.v.Tokens, b))
	}
	if _, ok := w.known[key.String()]; !ok {
		w.known[key.String()] = w.merges.Run(alone)
	}
	return w.known[key.String()], true
}

// pieces are a text's ones, each of its symbols.
func (w words) pieces(text []int) [][]int {
	var l [][]int
	at := 0
	for _, p := range split.Split(w.kind, w.table, text, true) {
		l = append(l, text[at:at+p.N])
		at += p.N
	}
	return l
}

func (w words) encode(text []int) ([]int, api.Errno) {
	if err := w.check(text); err != api.OK {
		return nil, err
	}
	var l []int
	for _, p := range w.pieces(text) {
		tokens, _ := w.piece(p)
		l = append(l, tokens...)
	}
	return l, api.OK
}

func (w words) symbols(token int) ([]int, api.Errno) {
	for _, s := range w.v.Specials {
		if s.ID != token {
			continue
		}
		for n, name := range w.names {
			if name == s.Name {
				return []int{256 + n}, api.OK
			}
		}
		return nil, api.ErrUnmapped
	}
	for n, s := range w.v.Tokens {
		if n == token && s != "" {
			return row(s), api.OK
		}
	}
	return nil, api.ErrToken
}

func (w words) decode(tokens []int) ([]int, api.Errno) {
	var l []int
	for _, token := range tokens {
		symbols, err := w.symbols(token)
		if err != api.OK {
			return nil, err
		}
		l = append(l, symbols...)
	}
	return l, api.OK
}

// both is a coder, beside what the chapter says.
type both struct {
	*testing.T
	c    *text.Coder
	w    words
	room int
	keys []string // of what is remembered, the eldest one first
	hits int
	made int
}

func bothOf(t *testing.T, v api.Vocab, names []string, kind int, table []api.Range, room int) *both {
	t.Helper()
	c, err := text.New(v, names, kind, table, room)
	if c == nil || err != api.OK {
		t.Fatal("New:", err)
	}
	if len(table) == 0 {
		table = class.Usual()
	}
	merges, err := pair.New(v)
	if err != api.OK {
		t.Fatal("pair.New:", err)
	}
	w := words{v: sample.Clone(v), names: slices.Clone(names), kind: kind, table: slices.Clone(table), merges: merges, known: map[string][]int{}}
	return &both{T: t, c: c, w: w, room: room}
}

// asked says that a piece's tokens have been asked for.
func (x *both) asked(piece []int) {
	if _, ok := x.w.piece(piece); !ok {
		return
	}
	key := fmt.Sprint(piece)
	at := slices.Index(x.keys, key)
	if at >= 0 {
		x.hits++
		x.keys = slices.Delete(x.keys, at, at+1)
	} else {
		x.made++
	}
	x.keys = append(x.keys, key)
	if len(x.keys) > x.room {
		x.keys = x.keys[1:]
	}
}

func (x *both) counts() {
	x.Helper()
	if hits, made := x.c.Counts(); hits != x.hits || made != x.made {
		x.Fatalf("room %d: Counts() = %d, %d; want %d, %d", x.room, hits, made, x.hits, x.made)
	}
}

func (x *both) check(text []int) {
	x.Helper()
	if got, want := x.c.Check(text), x.w.check(text); got != want {
		x.Fatalf("Check(%v) = %v; want %v", text, got, want)
	}
	x.counts()
}

func (x *both) split(text []int) {
	x.Helper()
	for _, final := range []bool{false, true} {
		got, want := x.c.Split(text, final), split.Split(x.w.kind, x.w.table, text, final)
		if !slices.Equal(got, want) {
			x.Fatalf("kind %d: Split(%v, %v) = %v; want %v", x.w.kind, text, final, got, want)
		}
	}
	x.counts()
}

func (x *both) piece(text []int) {
	x.Helper()
	got := x.c.Piece(text)
	if want, _ := x.w.piece(text); !slices.Equal(got, want) {
		x.Fatalf("Piece(%v) = %v; want %v", text, got, want)
	}
	x.asked(text)
	x.counts()
}

func (x *both) encode(text []int) {
	x.Helper()
	got, err := x.c.Encode(text)
	want, e := x.w.encode(text)
	if !slices.Equal(got, want) || err != e {
		x.Fatalf("kind %d: Encode(%v) = %v, %v; want %v, %v", x.w.kind, text, got, err, want, e)
	}
	if err == api.OK {
		for _, p := range x.w.pieces(text) {
			x.asked(p)
		}
		x.back(text, got)
	}
	x.counts()
}

// back says that the tokens of a text tell its symbols.
func (x *both) back(text, tokens []int) {
	x.Helper()
	if got, err := x.c.Decode(tokens); !slices.Equal(got, text) || err != api.OK {
		x.Fatalf("kind %d: the tokens of %v are %v, which tell %v, %v", x.w.kind, text, tokens, got, err)
	}
}

func (x *both) symbols(token int) {
	x.Helper()
	got, err := x.c.Symbols(token)
	if want, e := x.w.symbols(token); !slices.Equal(got, want) || err != e {
		x.Fatalf("Symbols(%d) = %v, %v; want %v, %v", token, got, err, want, e)
	}
	x.counts()
}

func (x *both) decode(tokens []int) {
	x.Helper()
	got, err := x.c.Decode(tokens)
	if want, e := x.w.decode(tokens); !slices.Equal(got, want) || err != e {
		x.Fatalf("Decode(%v) = %v, %v; want %v, %v", tokens, got, err, want, e)
	}
	x.counts()
}

// all holds all that is answered of a text against the chapter's words, and says that it hasn't changed.
func (x *both) all(text []int) {
	x.Helper()
	old := slices.Clone(text)
	x.check(text)
	x.split(text)
	x.piece(text)
	x.encode(text)
	if !slices.Equal(text, old) {
		x.Fatalf("%v has become %v", old, text)
	}
}

// rows hands out all rows of at most so many of these numbers.
func rows(of []int, most int, yield func([]int)) {
	yield(nil)
	for size := 1; size <= most; size++ {
		at := make([]int, size)
		for more := true; more; {
			row := make([]int, size)
			for n := range row {
				row[n] = of[at[n]]
			}
			yield(row)
			more = false
			for n := size - 1; n >= 0 && !more; n-- {
				at[n] = (at[n] + 1) % len(of)
				more = at[n] > 0
			}
		}
	}
}

// parts are what longer texts are made of.
var parts = []string{
	" ", " ", "  ", "a", "b", "ab", " ab", "'", "'r", "'re", "'s", "7", "42", "123", "1234", "\n", "\r\n", "\t", "\u00a0", "é", "\u20ac", "\U0001f600",
	"\xe2\x82", "\xff", "\xc2", ".", "!?", "the", " the", "we're", "A", "_", "\x00",
}

// longer is a text of bytes, and now and then of one of these marks.
func longer(by *rand.Rand, most int, marks ...int) []int {
	var l []int
	for range by.Intn(most + 1) {
		if len(marks) > 0 && by.Intn(6) == 0 {
			l = append(l, marks[by.Intn(len(marks))])
		} else {
			l = append(l, row(parts[by.Intn(len(parts))])...)
		}
	}
	return l
}

var merged = []string{" a", "ab", " ab", "'r", "'re", "th", "the", " t", " the", "12", "23", "  ", "\n\n", "\xe2\x82", "\xe2\x82\xac", "b'"}

// several are vocabularies: each has "end" and "fim" of names(), none has "bos".
func several(t *testing.T) map[string]api.Vocab {
	t.Helper()
	by := rand.New(rand.NewSource(161))
	rows := mixed(by, sample.Rows(merged...), 280)
	var free []int
	for n := range 300 {
		if !slices.ContainsFunc(rows, func(r api.Row) bool { return r.Rank == n }) {
			free = append(free, n)
		}
	}
	return map[string]api.Vocab{
		"ranks":        sample.ByRank(sample.Rows(merged...), api.Special{Name: "end", ID: 300}, api.Special{Name: "fim", ID: 290}, api.Special{Name: "odd", ID: 301}),
		"ranks, mixed": sample.ByRank(rows, api.Special{Name: "end", ID: free[3]}, api.Special{Name: "fim", ID: free[0]}, api.Special{Name: "a_0", ID: free[5]}),
		"pairs": sample.ByPairs(sample.Tables(" +a", "b+'", "a+b", " a+b", "'+r", "'r+e", "t+h", " +t", " t+h", " th+e", "\xe2+\x82", "\x82+\xac", " + "),
			api.Special{Name: "fim", ID: 400}, api.Special{Name: "end", ID: 401}),
		"no merges": sample.ByRank(sample.Rows(), api.Special{Name: "end", ID: 257}, api.Special{Name: "fim", ID: 256}, api.Special{Name: "x", ID: 4095}),
	}
}

func names() []string { return []string{"bos", "end", "fim"} }

// P16.1: the chapter's example, and others like it.
func TestAsSaid(t *testing.T) {
	v := sample.ByRank(sample.Rows("ab", " ab", " a", "'r", "'re"), api.Special{Name: "end", ID: 300}, api.Special{Name: "odd", ID: 301})
	c, err := text.New(v, []string{"end"}, api.Plain, nil, 4)
	if err != api.OK {
		t.Fatal("New:", err)
	}
	for _, x := range []struct {
		text, tokens []int
		err          api.Errno
	}{
		{row("a", 256), row('a', 300), api.OK},
		{row(256, 256), row(300, 300), api.OK},
		{row("ab ab"), row(256, 257), api.OK},
		{row("ab  ab"), row(256, ' ', 257), api.OK},
		{row("ab're"), row(256, 260), api.OK},
		{row("'r", 256, "e"), row("'r", 300, "e"), api.OK},
		{row("a", 256, "b"), row('a', 300, 'b'), api.OK},
		{nil, nil, api.OK},
		{row(257), nil, api.ErrArg},
		{row("ab", -1), nil, api.ErrArg},
	} {
		if got, err := c.Encode(x.text); !slices.Equal(got, x.tokens) || err != x.err {
			t.Errorf("Encode(%v) = %v, %v; want %v, %v", x.text, got, err, x.tokens, x.err)
		}
		if got := c.Check(x.text); got != x.err {
			t.Errorf("Check(%v) = %v; want %v", x.text, got, x.err)
		}
		if x.err != api.OK {
			continue
		}
		if got, err := c.Decode(x.tokens); !slices.Equal(got, x.text) || err != api.OK {
			t.Errorf("Decode(%v) = %v, %v; want %v", x.tokens, got, err, x.text)
		}
	}
	for _, x := range []struct {
		token   int
		symbols []int
		err     api.Errno
	}{{300, row(256), api.OK}, {301, nil, api.ErrUnmapped}, {299, nil, api.ErrToken}, {302, nil, api.ErrToken}, {-1, nil, api.ErrToken}, {260, row("'re"), api.OK}} {
		if got, err := c.Symbols(x.token); !slices.Equal(got, x.symbols) || err != x.err {
			t.Errorf("Symbols(%d) = %v, %v; want %v, %v", x.token, got, err, x.symbols, x.err)
		}
	}
}

// P16.1, P16.2: all short texts, by all kinds and several vocabularies, with every fault at each of their places.
func TestShortTexts(t *testing.T) {
	of := append(row(" a'r7\n\xe2\x82"), 257, 258, 256, 259)
	for name, v := range several(t) {
		t.Run(name, func(t *testing.T) {
			for _, kind := range kinds {
				x := bothOf(t, v, names(), kind, nil, 3)
				rows(of, 3, x.all)
			}
		})
	}
}

// P16.1: all symbols and tokens, one by one, and those far away.
func TestOneByOne(t *testing.T) {
	for name, v := range several(t) {
		t.Run(name, func(t *testing.T) {
			x := bothOf(t, v, names(), api.Plain, nil, 8)
			for n := range 5000 {
				x.all(row(n))
				x.all(row("a", n))
				x.symbols(n)
				x.decode([]int{n})
			}
			for _, n := range far {
				x.all(row(n))
				x.all(row("a", n))
				x.symbols(n)
				x.decode([]int{n})
			}
		})
	}
}

// P16.1: all short rows of tokens of each kind, among them those that have a fault.
func TestShortRows(t *testing.T) {
	for name, v := range several(t) {
		t.Run(name, func(t *testing.T) {
			x := bothOf(t, v, names(), api.Plain, nil, 8)
			of := []int{'a', len(v.Tokens) - 1, len(v.Tokens), -1}
			for _, s := range v.Specials {
				of = append(of, s.ID)
			}
			for n, s := range v.Tokens {
				if len(s) > 1 || s == "" {
					of = append(of, n)
					break
				}
			}
			rows(of, 4, x.decode)
		})
	}
}

// P16.1, P16.2: longer texts.
func TestLongerTexts(t *testing.T) {
	for name, v := range several(t) {
		t.Run(name, func(t *testing.T) {
			by := rand.New(rand.NewSource(162))
			for _, table := range [][]api.Range{nil, sample.Odd()} {
				for _, kind := range kinds {
					x := bothOf(t, v, names(), kind, table, 20)
					for range 150 {
						x.all(longer(by, 30, 257, 258))
						x.all(longer(by, 8, 257, 258, 256, 259, -1))
						tokens := []int{}
						for range by.Intn(20) {
							tokens = append(tokens, by.Intn(min(len(v.Tokens), 420)))
						}
						x.decode(tokens)
					}
				}
			}
		})
	}
}

// P16.1, P16.2: a text of as many symbols as any may have.
func TestLongText(t *testing.T) {
	by := rand.New(rand.NewSource(163))
	v := several(t)["ranks"]
	var long []int
	for len(long) < api.MaxText {
		long = append(long, longer(by, 20, 257, 258)...)
	}
	x := bothOf(t, v, names(), api.Plain, nil, 500)
	x.check(long[:api.MaxText])
	x.encode(long[:api.MaxText])
	x.check(append(long, 256, 259))
	x.encode(append(long, 256, 259))
	x.check(append(long, 259, 256))
	x.encode(append(long, 259, 256))
}

// P16.1: of several faults the first one is told, and none of what stands behind it.
func TestFirstFault(t *testing.T) {
	x := bothOf(t, several(t)["ranks"], names(), api.Plain, nil, 4)
	for _, c := range []struct {
		text []int
		err  api.Errno
	}{
		{row("ab", 256, 259), api.ErrUnmapped}, {row("ab", 259, 256), api.ErrArg}, {row(256, -1), api.ErrUnmapped}, {row(-1, 256), api.ErrArg},
		{row(257, 256), api.ErrUnmapped}, {row("a b", math.MaxInt), api.ErrArg},
	} {
		if got := x.c.Check(c.text); got != c.err {
			t.Errorf("Check(%v) = %v; want %v", c.text, got, c.err)
		}
		if got, err := x.c.Encode(c.text); len(got) != 0 || err != c.err {
			t.Errorf("Encode(%v) = %v, %v; want none and %v", c.text, got, err, c.err)
		}
		if got := x.c.Piece(c.text); len(got) != 0 {
			t.Errorf("Piece(%v) = %v; want none", c.text, got)
		}
		x.counts()
	}
	for _, c := range []struct {
		tokens []int
		err    api.Errno
	}{
		{[]int{'a', 301, 299}, api.ErrUnmapped}, {[]int{'a', 299, 301}, api.ErrToken}, {[]int{-1, 301}, api.ErrToken}, {[]int{301, -1}, api.ErrUnmapped},
		{[]int{300, 302}, api.ErrToken}, {[]int{math.MaxInt}, api.ErrToken},
	} {
		if got, err := x.c.Decode(c.tokens); len(got) != 0 || err != c.err {
			t.Errorf("Decode(%v) = %v, %v; want none and %v", c.tokens, got, err, c.err)
		}
	}
}

// P16.1: what is counted, by rooms of all sizes that matter; an answer hangs on none of it.
func TestCounts(t *testing.T) {
	v := several(t)["ranks"]
	for _, room := range []int{0, 1, 2, 3, 5, 40, api.MaxRoom} {
		by := rand.New(rand.NewSource(164))
		x := bothOf(t, v, names(), api.Plain, nil, room)
		x.counts()
		for range 1500 {
			l := longer(by, 4, 257, 258, 256)
			switch by.Intn(8) {
			case 0:
				x.check(l)
			case 1:
				x.split(l)
			case 2, 3:
				x.piece(l)
			case 4:
				x.decode(l)
			default:
				x.encode(l)
			}
		}
		if (x.hits > 0) != (room > 0) || x.made == 0 {
			t.Errorf("room %d: found %d, made %d", room, x.hits, x.made)
		}
	}
}

// P16.1: a piece that is told with others and alone is the same one, a mark or nothing is none of bytes, and bytes are one piece, wherever they could be cut.
func TestCountsOfPieces(t *testing.T) {
	x := bothOf(t, several(t)["ranks"], names(), api.Plain, nil, 2)
	step := func(hits, made int) {
		t.Helper()
		if x.hits != hits || x.made != made {
			t.Fatalf("found %d, made %d; want %d, %d", x.hits, x.made, hits, made)
		}
	}
	x.encode(row("ab ab"))
	step(0, 2)
	x.piece(row(" ab"))
	step(1, 2)
	x.piece(row("ab ab"))
	step(1, 3)
	x.encode(row("ab"))
	step(1, 4)
	x.encode(row("ab"))
	step(2, 4)
	x.piece(nil)
	x.piece(row(257))
	x.piece(row("ab", 257))
	x.piece(row(257, "ab"))
	x.piece(row(257, 257))
	x.encode(nil)
	x.encode(row(257, 258))
	x.encode(row("ab", 256))
	x.encode(row("ab", -1))
	step(2, 4)
	x.encode(row("ab", 257, "ab"))
	step(4, 4)
}

// P16.1: a table without ranges stands for the usual one, another one for itself.
func TestTables(t *testing.T) {
	v := several(t)["ranks"]
	by := rand.New(rand.NewSource(165))
	for _, kind := range kinds {
		none := bothOf(t, v, names(), kind, nil, 9)
		empty := bothOf(t, v, names(), kind, []api.Range{}, 9)
		usual := bothOf(t, v, names(), kind, class.Usual(), 9)
		odd := bothOf(t, v, names(), kind, sample.Odd(), 9)
		unlike := false
		for range 300 {
			l := longer(by, 12, 257)
			want, _ := usual.c.Encode(l)
			for _, x := range []*both{none, empty} {
				if got, err := x.c.Encode(l); !slices.Equal(got, want) || err != api.OK {
					t.Fatalf("kind %d: Encode(%v) = %v, %v; by the usual table %v", kind, l, got, err, want)
				}
				if got, w := x.c.Split(l, false), usual.c.Split(l, false); !slices.Equal(got, w) {
					t.Fatalf("kind %d: Split(%v) = %v; by the usual table %v", kind, l, got, w)
				}
			}
			odd.all(l)
			other, _ := odd.w.encode(l)
			unlike = unlike || !slices.Equal(other, want)
		}
		if cuts := kind != api.None; cuts != unlike {
			t.Errorf("kind %d: by another table texts are others: %v", kind, unlike)
		}
	}
}

// P16.1: marks stand for names, not for specials; a name that no special has counts, too.
func TestMarks(t *testing.T) {
	var all []string
	for n := range api.MaxNames {
		all = append(all, string(rune('a'+n))+"x")
	}
	var specials []api.Special
	for n := 1; n < api.MaxNames; n += 2 {
		specials = append(specials, api.Special{Name: all[n], ID: 300 - n})
	}
	v := sample.ByRank(sample.Rows("ab"), specials...)
	for _, list := range [][]string{nil, {}, all, all[:1], all[1:2], all[3:9], {"_"}, {"0", "9x", "_", "a"}} {
		x := bothOf(t, v, list, api.Plain, nil, 4)
		for n := range 24 {
			x.all(row("ab", 255+n, "ab"))
			x.all(row(255 + n))
		}
		for n := range 310 {
			x.symbols(n)
		}
	}
}

// P16.3: the tokens of what is decided are the first ones, whatever stands behind it.
func TestDecidedStays(t *testing.T) {
	for name, v := range several(t) {
		t.Run(name, func(t *testing.T) {
			by := rand.New(rand.NewSource(166))
			for _, table := range [][]api.Range{nil, sample.Odd()} {
				for _, kind := range kinds {
					x := bothOf(t, v, names(), kind, table, 20)
					for range 60 {
						x.stays(longer(by, 10, 257, 258), by)
					}
				}
			}
			x := bothOf(t, v, names(), api.Plain, nil, 20)
			rows(append(row(" a'r7"), 257), 3, func(l []int) { x.stays(l, by) })
		})
	}
}

// stays lays several things behind a text of which some pieces are decided.
func (x *both) stays(text []int, by *rand.Rand) {
	x.Helper()
	var first []int
	at, open := 0, false
	for _, p := range x.c.Split(text, false) {
		if open = open || !p.Decided; !open {
			first = append(first, x.c.Piece(text[at:at+p.N])...)
		}
		at += p.N
	}
	behind := [][]int{nil, row(" "), row("a"), row("b"), row("'"), row("re"), row("7"), row("\n"), row("\x82"), row("\xac"), row(257), longer(by, 5, 257, 258)}
	for _, more := range behind {
		got, err := x.c.Encode(slices.Concat(text, more))
		if err != api.OK || len(got) < len(first) || !slices.Equal(got[:len(first)], first) {
			x.Fatalf("kind %d: of %v the tokens %v are decided; with %v behind it they are %v, %v", x.w.kind, text, first, more, got, err)
		}
	}
}

// P16.1: of what may not be there is no coder.
func TestNew(t *testing.T) {
	v := several(t)["ranks"]
	long := strings.Repeat("z", api.MaxName)
	var many []string
	for n := range api.MaxNames + 1 {
		many = append(many, string(rune('a'+n)))
	}
	var wide []api.Range
	for n := range api.MaxRanges + 1 {
		wide = append(wide, api.Range{Lo: 2 * n, Hi: 2 * n, Class: 1 + n%4})
	}
	type from struct {
		names []string
		kind  int
		table []api.Range
		room  int
	}
	for _, f := range []from{
		{nil, api.None, nil, 0}, {[]string{}, api.Wide, []api.Range{}, api.MaxRoom}, {[]string{long}, 1, wide[1:], 1}, {many[1:], 2, wide[:1], 1},
		{[]string{"0", "00", "9", "_", "a", "a0", "a_", "aa", "z"}, 3, []api.Range{{Lo: 0, Hi: api.MaxPoint, Class: 4}}, api.MaxRoom - 1},
	} {
		if c, err := text.New(v, f.names, f.kind, f.table, f.room); c == nil || err != api.OK {
			t.Errorf("New(%v) = %v, %v; want a coder", f, c, err)
		}
	}
	wrong := []from{
		{[]string{""}, 0, nil, 0}, {[]string{long + "z"}, 0, nil, 0}, {many, 0, nil, 0}, {[]string{"b", "a"}, 0, nil, 0}, {[]string{"a", "a"}, 0, nil, 0},
		{[]string{"A"}, 0, nil, 0}, {[]string{"a", "b-"}, 0, nil, 0}, {[]string{"a b"}, 0, nil, 0}, {[]string{"ä"}, 0, nil, 0}, {[]string{"a", "c", "b"}, 0, nil, 0},
		{make([]string, 5000), 0, nil, 0}, {[]string{"`"}, 0, nil, 0}, {[]string{"{"}, 0, nil, 0}, {[]string{"/"}, 0, nil, 0}, {[]string{":"}, 0, nil, 0},
		{nil, -1, nil, 0}, {nil, 4, nil, 0}, {nil, math.MaxInt, nil, 0}, {nil, math.MinInt, nil, 0},
		{nil, 0, nil, -1}, {nil, 0, nil, api.MaxRoom + 1}, {nil, 0, nil, math.MaxInt}, {nil, 0, nil, math.MinInt},
		{nil, 0, wide, 0}, {nil, 0, []api.Range{{Lo: 1, Hi: 0, Class: 1}}, 0}, {nil, 0, []api.Range{{Lo: -1, Hi: 0, Class: 1}}, 0},
		{nil, 0, []api.Range{{Lo: 0, Hi: api.MaxPoint + 1, Class: 1}}, 0}, {nil, 0, []api.Range{{Class: 0}}, 0}, {nil, 0, []api.Range{{Class: 5}}, 0},
		{nil, 0, []api.Range{{Lo: 1, Hi: 2, Class: 1}, {Lo: 2, Hi: 3, Class: 1}}, 0},
		{many, 9, wide, -1},
	}
	for _, f := range wrong {
		if c, err := text.New(v, f.names, f.kind, f.table, f.room); c != nil || err != api.ErrArg {
			t.Errorf("New(%v) = %v, %v; want none and ErrArg", f, c, err)
		}
	}
	for name, no := range sample.Wrong() {
		for _, f := range append(wrong, from{names(), api.Plain, nil, 1}) {
			if c, err := text.New(no, f.names, f.kind, f.table, f.room); c != nil || err != api.ErrForm {
				t.Errorf("%s: New(%v) = %v, %v; want none and ErrForm", name, f, c, err)
			}
		}
	}
}

// P16.1: a nil coder.
func TestNil(t *testing.T) {
	var c *text.Coder
	for _, l := range [][]int{nil, {}, row("a"), row("ab", 256), row(-1)} {
		if err := c.Check(l); err != api.ErrArg {
			t.Errorf("Check(%v) = %v", l, err)
		}
		for _, final := range []bool{false, true} {
			if got := c.Split(l, final); len(got) != 0 {
				t.Errorf("Split(%v) = %v", l, got)
			}
		}
		if got := c.Piece(l); len(got) != 0 {
			t.Errorf("Piece(%v) = %v", l, got)
		}
		if got, err := c.Encode(l); len(got) != 0 || err != api.ErrArg {
			t.Errorf("Encode(%v) = %v, %v", l, got, err)
		}
		if got, err := c.Decode(l); len(got) != 0 || err != api.ErrArg {
			t.Errorf("Decode(%v) = %v, %v", l, got, err)
		}
	}
	for _, n := range []int{'a', 256, -1} {
		if got, err := c.Symbols(n); len(got) != 0 || err != api.ErrArg {
			t.Errorf("Symbols(%d) = %v, %v", n, got, err)
		}
	}
	if hits, made := c.Counts(); hits != 0 || made != 0 {
		t.Error("Counts:", hits, made)
	}
}

// P16.1: whoever writes into what was handed in, or answered, changes nothing.
func TestApart(t *testing.T) {
	v, list, table := several(t)["ranks"], names(), sample.Odd()
	x := bothOf(t, v, list, api.Plain, table, 4)
	for n := range v.Tokens {
		v.Tokens[n] = "?"
	}
	for n := range v.Merges {
		v.Merges[n] = api.Merge{}
	}
	for n := range v.Specials {
		v.Specials[n] = api.Special{}
	}
	for n := range list {
		list[n] = "?"
	}
	for n := range table {
		table[n] = api.Range{}
	}
	for range 2 {
		for _, l := range [][]int{row("ab"), row(" the ab're", 257, 258, "12s\n\n"), row(258), row(256)} {
			x.all(l)
			piece, tokens, symbols := x.c.Piece(l), first(x.c.Encode(l)), first(x.c.Decode(l))
			x.asked(l)
			if x.w.check(l) == api.OK {
				for _, p := range x.w.pieces(l) {
					x.asked(p)
				}
			}
			clear(piece[:cap(piece)])
			clear(tokens[:cap(tokens)])
			clear(symbols[:cap(symbols)])
			clear(x.c.Split(l, true))
			clear(l)
		}
		for n := range 310 {
			clear(first(x.c.Symbols(n)))
			x.symbols(n)
		}
	}
}

func first(l []int, _ api.Errno) []int { return l }

// P16.1: two coders of the same are the same, and apart: what the one is asked doesn't count for the other one.
func TestSameAgain(t *testing.T) {
	v := several(t)["ranks, mixed"]
	x, y := bothOf(t, v, names(), api.Wide, nil, 6), bothOf(t, v, names(), api.Wide, nil, 6)
	by := rand.New(rand.NewSource(167))
	for range 200 {
		l := longer(by, 6, 257, 258)
		x.all(l)
		y.counts()
		y.all(l)
		y.all(l)
		x.counts()
	}
}
