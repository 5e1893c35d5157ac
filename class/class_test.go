package class_test

import (
	"math"
	"slices"
	"strconv"
	"strings"
	"testing"

	"footbridge/api"
	"footbridge/class"
)

// The usual table in the chapter's words, a class a line.
const usualWords = `1: 41 to 5a, 61 to 7a, aa, b5, ba, c0 to d6, d8 to f6, f8 to 2c1, 370 to 373, 376 to 377, 37b to 37d, 37f, 386, 388 to 3f5, 3f7 to 481, 48a to 52f, 531 to 556, 561 to 587, 5d0 to 5ea, 620 to 64a, 904 to 939, e01 to e30, 10a0 to 10ff, 1100 to 1248, 1e00 to 1fbc, 3041 to 3096, 30a1 to 30fa, 4e00 to 9fff, ac00 to d7a3, 20000 to 2a6df
2: 30 to 39, b2 to b3, b9, bc to be, 660 to 669, 966 to 96f, 2160 to 2188, ff10 to ff19
4: a, d
3: 9, b to c, 20, 85, a0, 1680, 2000 to 200a, 2028 to 2029, 202f, 205f, 3000`

func hex(t *testing.T, s string) int {
	t.Helper()
	n, err := strconv.ParseInt(s, 16, 32)
	if err != nil {
		t.Fatal(err)
	}
	return int(n)
}

// usualRanges are the ranges of the words, in no order.
func usualRanges(t *testing.T) []api.Range {
	t.Helper()
	var ranges []api.Range
	for line := range strings.Lines(usualWords) {
		name, list, _ := strings.Cut(strings.TrimSpace(line), ": ")
		for part := range strings.SplitSeq(list, ", ") {
			lo, hi, wide := strings.Cut(part, " to ")
			if !wide {
				hi = lo
			}
			ranges = append(ranges, api.Range{Lo: hex(t, lo), Hi: hex(t, hi), Class: hex(t, name)})
		}
	}
	return ranges
}

// P2.1: the usual table has the chapter's ranges, and they rise.
func TestUsual(t *testing.T) {
	want := usualRanges(t)
	slices.SortFunc(want, func(a, b api.Range) int { return a.Lo - b.Lo })
	if got := class.Usual(); !slices.Equal(got, want) {
		t.Errorf("Usual() = %v; want %v", got, want)
	}
	if !class.May(class.Usual()) {
		t.Error("the usual table may not be")
	}
}

// P2.1: every number from below 0 to above the greatest code point has its class of the usual table.
func TestOfUsual(t *testing.T) {
	want := make([]int, 0x110000)
	for _, r := range usualRanges(t) {
		for point := r.Lo; point <= r.Hi; point++ {
			want[point] = r.Class
		}
	}
	usual := class.Usual()
	for point, c := range want {
		if got := class.Of(usual, point); got != c {
			t.Fatalf("Of(usual, %#x) = %d; want %d", point, got, c)
		}
	}
	for _, point := range []int{math.MinInt, math.MinInt + 0x41, -0x41, -2, -1, 0x110000, 0x110041, 1<<32 + 0x41, math.MaxInt} {
		if got := class.Of(usual, point); got != api.Other {
			t.Errorf("Of(usual, %d) = %d", point, got)
		}
	}
}

// one is a table of a single range.
func one(lo, hi, of int) []api.Range {
	return []api.Range{{Lo: lo, Hi: hi, Class: of}}
}

// row is a table of as many ranges, two numbers each, with one of no range between them.
func row(n int) []api.Range {
	var t []api.Range
	for i := range n {
		t = append(t, api.Range{Lo: 3 * i, Hi: 3*i + 1, Class: 1 + i%4})
	}
	return t
}

// P2.1: tables that may be, at all edges that the chapter names.
func TestMay(t *testing.T) {
	for i, table := range [][]api.Range{
		nil,
		{},
		one(0, 0, 1),
		one(0, api.MaxPoint, 4),
		one(api.MaxPoint, api.MaxPoint, 2),
		one(0xd800, 0xdfff, 3),
		append(one(0, 4, 1), one(5, 5, 1)...),
		append(one(0, 4, 4), one(api.MaxPoint, api.MaxPoint, 1)...),
		row(api.MaxRanges - 1),
		row(api.MaxRanges),
	} {
		if !class.May(table) {
			t.Errorf("%d: %v may not be", i, table)
		}
	}
}

// wrong are tables that may not be; each has a number from 4 to 6 in a range of a class, so that Of has something to miss.
func wrong() [][]api.Range {
	at := one(4, 6, 1)
	join := func(parts ...[]api.Range) []api.Range { return slices.Concat(parts...) }
	return [][]api.Range{
		row(api.MaxRanges + 1),
		row(api.MaxRanges + 100),
		join(at, one(9, 8, 1)),
		join(at, one(math.MaxInt, 8, 1)),
		join(at, one(9, math.MinInt, 1)),
		join(at, one(9, api.MaxPoint+1, 1)),
		join(at, one(9, math.MaxInt, 1)),
		join(at, one(api.MaxPoint+1, api.MaxPoint+1, 1)),
		join(one(-1, -1, 1), at),
		join(one(-1, 0, 1), at),
		join(one(math.MinInt, math.MinInt, 1), at),
		join(one(math.MinInt, 3, 1), at),
		one(-1, 6, 1),
		one(4, 6, 0),
		one(4, 6, 5),
		one(4, 6, -1),
		one(4, 6, 1+256),
		one(4, 6, math.MinInt),
		one(4, 6, math.MaxInt),
		join(at, one(8, 8, 0)),
		join(at, one(8, 8, 5)),
		join(at, at),
		join(at, one(6, 8, 1)),
		join(at, one(5, 5, 1)),
		join(at, one(0, 1, 1)),
		join(at, one(0, 8, 1)),
		join(one(8, 9, 1), at),
		join(one(0, 1, 1), one(8, 9, 1), at),
	}
}

// P2.1: tables that may not be, and each number's class is 0 there.
func TestMayNot(t *testing.T) {
	for i, table := range wrong() {
		if class.May(table) {
			t.Errorf("%d: %v may be", i, table)
		}
		for point := -2; point <= 12; point++ {
			if got := class.Of(table, point); got != 0 {
				t.Errorf("%d: Of(%v, %d) = %d", i, table, point, got)
			}
		}
	}
}

// P2.1: a number's class of tables of all sizes, at the edges of each range.
func TestOf(t *testing.T) {
	for _, n := range []int{0, 1, 2, 3, 8, api.MaxRanges - 1, api.MaxRanges} {
		table := row(n)
		for point := -3; point < 3*n+3; point++ {
			want := api.Other
			if point >= 0 && point < 3*n && point%3 < 2 {
				want = 1 + point/3%4
			}
			if got := class.Of(table, point); got != want {
				t.Fatalf("Of(row(%d), %d) = %d; want %d", n, point, got, want)
			}
		}
	}
	whole := one(0, api.MaxPoint, api.Line)
	for point, want := range map[int]int{math.MinInt: 0, -1: 0, 0: 4, 0xd800: 4, api.MaxPoint: 4, api.MaxPoint + 1: 0, math.MaxInt: 0} {
		if got := class.Of(whole, point); got != want {
			t.Errorf("Of(whole, %d) = %d; want %d", point, got, want)
		}
	}
}

// P2.1: the chapter's examples.
func TestExamples(t *testing.T) {
	if got := class.Of(class.Usual(), 0x41); got != api.Letter {
		t.Errorf("the class of 0x41 is %d", got)
	}
	if got := class.Of(class.Usual(), 0xa); got != api.Line {
		t.Errorf("the class of 0xa is %d", got)
	}
}

// P2.1: just Space and Line are spaces.
func TestIsSpace(t *testing.T) {
	for of := -300; of <= 300; of++ {
		if got, want := class.IsSpace(of), of == 3 || of == 4; got != want {
			t.Errorf("IsSpace(%d) = %v", of, got)
		}
	}
	for _, of := range []int{math.MinInt, math.MinInt + 3, 1<<32 + 3, 1<<32 + 4, math.MaxInt} {
		if class.IsSpace(of) {
			t.Errorf("IsSpace(%d) = true", of)
		}
	}
}

// R3: what is handed in isn't changed, and what is answered is new memory.
func TestMemory(t *testing.T) {
	want := class.Usual()
	clear(class.Usual())
	table := class.Usual()
	if !slices.Equal(table, want) {
		t.Errorf("Usual() = %v", table)
	}
	class.May(table)
	class.Of(table, 0x41)
	if !slices.Equal(table, want) {
		t.Errorf("%v was changed to %v", want, table)
	}
}
