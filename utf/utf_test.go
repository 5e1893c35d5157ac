package utf_test

import (
	"bytes"
	"math"
	"slices"
	"testing"
	"unicode/utf8"

	"footbridge/utf"
)

// edgeBytes are the bytes at which it changes what a byte may be behind, or ahead of, others.
var edgeBytes = []byte{
	0x00, 0x41, 0x7f, 0x80, 0x8f, 0x90, 0x9f, 0xa0, 0xbf, 0xc0, 0xc1, 0xc2, 0xdf,
	0xe0, 0xe1, 0xec, 0xed, 0xee, 0xef, 0xf0, 0xf1, 0xf3, 0xf4, 0xf5, 0xff,
}

// words is what the chapter's section 'Words' tells: all code points' bytes, and their first parts.
type words struct {
	point map[string]int
	needs map[string]bool
}

func readWords() words {
	w := words{point: map[string]int{}, needs: map[string]bool{"": true}}
	for point := 0; point <= 0x10ffff; point++ {
		if point >= 0xd800 && point <= 0xdfff {
			continue
		}
		b := byRule(point)
		w.point[b] = point
		for n := 1; n < len(b); n++ {
			w.needs[b[:n]] = true
		}
	}
	return w
}

// byRule are a code point's bytes, by division in the place of bits.
func byRule(point int) string {
	six := func(unit int) byte { return byte(0x80 + point/unit%64) }
	switch {
	case point < 0x80:
		return string([]byte{byte(point)})
	case point < 0x800:
		return string([]byte{byte(0xc0 + point/64), six(1)})
	case point < 0x10000:
		return string([]byte{byte(0xe0 + point/4096), six(64), six(1)})
	}
	return string([]byte{byte(0xf0 + point/262144), six(4096), six(64), six(1)})
}

func (w words) decode(b []byte, final bool) (int, int, bool) {
	if len(b) == 0 {
		return -1, 0, true
	}
	for n := 1; n <= min(4, len(b)); n++ {
		if point, ok := w.point[string(b[:n])]; ok {
			return point, n, false
		}
	}
	if w.needs[string(b)] && !final {
		return -1, 0, true
	}
	return -1, 1, false
}

func (w words) points(b []byte) []int {
	var l []int
	for len(b) > 0 {
		point, n, _ := w.decode(b, true)
		l = append(l, point)
		b = b[n:]
	}
	return l
}

func (w words) rest(b []byte) int {
	for {
		_, n, more := w.decode(b, false)
		if more {
			return len(b)
		}
		b = b[n:]
	}
}

// checkAll holds every call that takes bytes against the words.
func (w words) checkAll(t *testing.T, b []byte) {
	t.Helper()
	before := bytes.Clone(b)
	for _, final := range []bool{false, true} {
		point, n, more := utf.Decode(b, final)
		wantPoint, wantN, wantMore := w.decode(b, final)
		if point != wantPoint || n != wantN || more != wantMore {
			t.Fatalf("Decode(% x, %v) = %d, %d, %v; want %d, %d, %v", b, final, point, n, more, wantPoint, wantN, wantMore)
		}
	}
	if got, want := utf.Points(b), w.points(b); !slices.Equal(got, want) {
		t.Fatalf("Points(% x) = %d; want %d", b, got, want)
	}
	if got, want := utf.Rest(b), w.rest(b); got != want {
		t.Fatalf("Rest(% x) = %d; want %d", b, got, want)
	}
	if !bytes.Equal(b, before) {
		t.Fatalf("% x was changed to % x", before, b)
	}
}

// P1.1: every row of at most two bytes, and of at most four bytes at edges.
func TestEveryShortRow(t *testing.T) {
	w := readWords()
	w.checkAll(t, nil)
	w.checkAll(t, []byte{})
	for x := range 256 {
		w.checkAll(t, []byte{byte(x)})
		for y := range 256 {
			w.checkAll(t, []byte{byte(x), byte(y)})
		}
	}
	for _, x := range edgeBytes {
		for _, y := range edgeBytes {
			for _, z := range edgeBytes {
				w.checkAll(t, []byte{x, y, z})
				for _, u := range edgeBytes {
					w.checkAll(t, []byte{x, y, z, u})
				}
			}
		}
	}
}

// P1.1: long rows of bytes at edges, from a fixed rule in the place of chance.
func TestLongRows(t *testing.T) {
	w := readWords()
	state := uint32(1)
	next := func(n int) int {
		state = state*1664525 + 1013904223
		return int(state>>8) % n
	}
	for range 20000 {
		b := make([]byte, next(24))
		for i := range b {
			b[i] = edgeBytes[next(len(edgeBytes))]
			if next(2) == 0 {
				b[i] = byte(0x80 + next(64))
			}
		}
		w.checkAll(t, b)
	}
}

// P1.1: every code point, alone, with bytes behind it, and cut short.
func TestDecodeEveryPoint(t *testing.T) {
	for point := 0; point <= 0x10ffff; point++ {
		if !utf8.ValidRune(rune(point)) {
			continue
		}
		b := []byte(string(rune(point)))
		for _, behind := range []string{"", "a", "\x80", "\xff"} {
			long := append(bytes.Clone(b), behind...)
			for _, final := range []bool{false, true} {
				if p, n, more := utf.Decode(long, final); p != point || n != len(b) || more {
					t.Fatalf("Decode(% x, %v) = %d, %d, %v", long, final, p, n, more)
				}
			}
		}
		for n := 1; n < len(b); n++ {
			if p, k, more := utf.Decode(b[:n], false); p != -1 || k != 0 || !more {
				t.Fatalf("Decode(% x, false) = %d, %d, %v", b[:n], p, k, more)
			}
			if p, k, more := utf.Decode(b[:n], true); p != -1 || k != 1 || more {
				t.Fatalf("Decode(% x, true) = %d, %d, %v", b[:n], p, k, more)
			}
			if k := utf.Rest(b[:n]); k != n {
				t.Fatalf("Rest(% x) = %d", b[:n], k)
			}
		}
	}
}

// P1.1: the edges that the chapter names.
func TestDecodeEdges(t *testing.T) {
	for _, c := range []struct {
		b     string
		final bool
		point int
		n     int
		more  bool
	}{
		{"", false, -1, 0, true},
		{"", true, -1, 0, true},
		{"\xe2\x82", false, -1, 0, true},
		{"\xe2\x82", true, -1, 1, false},
		{"\xe2\x82\xac", false, 0x20ac, 3, false},
		{"\xe2\x82\xac", true, 0x20ac, 3, false},
		{"\xe2\x82a", false, -1, 1, false},
		{"\xef\xbf\xbd", false, 0xfffd, 3, false}, // a code point like any other, though some tell faults by it
		{"\xc0\x80", false, -1, 1, false},         // 0 has one byte
		{"\xe0\x9f\xbf", false, -1, 1, false},     // 0x7ff has two
		{"\xf0\x8f\xbf\xbf", false, -1, 1, false}, // 0xffff has three
		{"\xed\x9f\xbf", false, 0xd7ff, 3, false},
		{"\xed\xa0\x80", false, -1, 1, false}, // 0xd800 is none
		{"\xed\xbf\xbf", false, -1, 1, false}, // nor is 0xdfff
		{"\xed\xa0", false, -1, 1, false},
		{"\xee\x80\x80", false, 0xe000, 3, false},
		{"\xf4\x8f\xbf\xbf", false, 0x10ffff, 4, false},
		{"\xf4\x90\x80\x80", false, -1, 1, false}, // 0x110000 is none
		{"\xf4\x90", false, -1, 1, false},
		{"\xf5", false, -1, 1, false},
		{"\x80", false, -1, 1, false},
		{"\xff", false, -1, 1, false},
	} {
		point, n, more := utf.Decode([]byte(c.b), c.final)
		if point != c.point || n != c.n || more != c.more {
			t.Errorf("Decode(% x, %v) = %d, %d, %v; want %d, %d, %v", c.b, c.final, point, n, more, c.point, c.n, c.more)
		}
	}
}

// P1.1: every number from below 0 to above the greatest code point, and numbers that would be code points if bits were lost.
func TestEncode(t *testing.T) {
	check := func(point int) {
		t.Helper()
		b, ok := utf.Encode(point)
		want := point >= 0 && point <= 0x10ffff && (point < 0xd800 || point > 0xdfff)
		if ok != want || !ok && len(b) != 0 || ok && string(b) != byRule(point) {
			t.Fatalf("Encode(%d) = % x, %v", point, b, ok)
		}
	}
	for point := -300; point <= 0x110000+300; point++ {
		check(point)
	}
	for _, point := range []int{math.MinInt, math.MinInt + 0x41, math.MinInt32, math.MaxInt32, 0x200041, 1<<32 + 0x41, -1<<32 + 0x41, math.MaxInt} {
		check(point)
	}
}

// R3: what is answered is new memory.
func TestAnswersAreNew(t *testing.T) {
	b, _ := utf.Encode(0x20ac)
	clear(b)
	if again, ok := utf.Encode(0x20ac); !ok || string(again) != "\xe2\x82\xac" {
		t.Errorf("Encode(0x20ac) = % x, %v", again, ok)
	}
	given := []byte("a\xe2\x82\xac")
	points := utf.Points(given)
	clear(given)
	if !slices.Equal(points, []int{'a', 0x20ac}) {
		t.Errorf("Points = %d", points)
	}
}

func TestPoints(t *testing.T) {
	for _, c := range []struct {
		b    string
		want []int
	}{
		{"", nil},
		{"a\u20acb", []int{'a', 0x20ac, 'b'}},
		{"\xe2\x82", []int{-1, -1}},
		{"a\xe2\x82\xe2\x82\xac", []int{'a', -1, -1, 0x20ac}},
		{"\xed\xa0\x80", []int{-1, -1, -1}},
		{"\xf4\x90\x80\x80z", []int{-1, -1, -1, -1, 'z'}},
		{"\x00\xff\x7f", []int{0, -1, 0x7f}},
	} {
		if got := utf.Points([]byte(c.b)); !slices.Equal(got, c.want) {
			t.Errorf("Points(% x) = %d; want %d", c.b, got, c.want)
		}
	}
}

func TestRest(t *testing.T) {
	for _, c := range []struct {
		b    string
		want int
	}{
		{"", 0},
		{"abc", 0},
		{"a\xe2\x82\xac", 0},
		{"a\xe2\x82", 2},
		{"a\xc3", 1},
		{"\xff\xf0\x9f\x98", 3},
		{"\xf0\x9f\x98a", 0},
		{"\xe2\xe2\x82", 2}, // the first one is a byte of none: no code point begins with 0xe2, 0xe2
		{"\xe2\x82\xe2", 1},
		{"\x82\x82", 0},
		{"\xed\xa0", 0},
		{"\xc0", 0},
	} {
		if got := utf.Rest([]byte(c.b)); got != c.want {
			t.Errorf("Rest(% x) = %d; want %d", c.b, got, c.want)
		}
	}
}

// P1.2: from a code point to its bytes and back.
func TestPointsThereAndBack(t *testing.T) {
	var all []byte
	var want []int
	for point := 0; point <= 0x10ffff; point++ {
		b, ok := utf.Encode(point)
		if !ok {
			continue
		}
		if p, n, more := utf.Decode(b, true); p != point || n != len(b) || more {
			t.Fatalf("Decode(Encode(%d)) = %d, %d, %v", point, p, n, more)
		}
		all = append(all, b...)
		want = append(want, point)
	}
	if len(want) != 0x110000-0x800 {
		t.Fatalf("%d code points", len(want))
	}
	if !slices.Equal(utf.Points(all), want) {
		t.Error("Points of all code points' bytes aren't these code points")
	}
}

// P1.2: from bytes to their code points and back, bytes of none going along as they are.
func TestBytesThereAndBack(t *testing.T) {
	for x := range 1 << 16 {
		for _, ahead := range []string{"", "\xe2", "\xf0\x9f", "a"} {
			b := append([]byte(ahead), byte(x>>8), byte(x))
			var back []byte
			for _, point := range utf.Points(b) {
				if point == -1 {
					back = append(back, b[len(back)])
					continue
				}
				of, ok := utf.Encode(point)
				if !ok {
					t.Fatalf("Points(% x) tells %d", b, point)
				}
				back = append(back, of...)
			}
			if !bytes.Equal(back, b) {
				t.Fatalf("% x came back as % x", b, back)
			}
		}
	}
}
