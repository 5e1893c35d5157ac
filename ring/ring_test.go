package ring_test

import (
	"math"
	"runtime"
	"slices"
	"testing"
	"weak"

	"footbridge/api"
	"footbridge/ring"
)

// model is a ring as the chapter tells it: all things that were ever put, by their numbers, and how many of the first are gone.
type model struct {
	room, from int
	put        []int
}

func (m *model) all() []int { return m.put[m.from:] }

// both is a ring, beside what it should be.
type both struct {
	*testing.T
	name string
	ring *ring.Ring[int]
	want model
}

func begin(t *testing.T, name string, room int) *both {
	return &both{T: t, name: name, ring: ring.New[int](room), want: model{room: room}}
}

// filled is a ring that had so many things at once, of which then so many are gone at the front, and so many are there.
func filled(t *testing.T, name string, room, once, gone, count int) *both {
	b := begin(t, name, room)
	for i := range once {
		b.push(50 + i)
	}
	b.cut(0)
	for i := range gone {
		b.push(100 + i)
		b.shift()
	}
	for i := range count {
		b.push(200 + i)
	}
	return b
}

func (b *both) push(x int) {
	b.Helper()
	ok := len(b.want.all()) < b.want.room
	if got := b.ring.Push(x); got != ok {
		b.Fatalf("%s: Push(%d) = %v", b.name, x, got)
	}
	if ok {
		b.want.put = append(b.want.put, x)
	}
}

func (b *both) pop() {
	b.Helper()
	x, ok := b.ring.Pop()
	b.taken("Pop", x, ok, len(b.want.put)-1)
	if ok {
		b.want.put = b.want.put[:len(b.want.put)-1]
	}
}

func (b *both) shift() {
	b.Helper()
	x, ok := b.ring.Shift()
	b.taken("Shift", x, ok, b.want.from)
	if ok {
		b.want.from++
	}
}

// taken holds a thing against that of a number, or against none.
func (b *both) taken(what string, x int, ok bool, number int) {
	b.Helper()
	want, there := 0, number >= b.want.from && number < len(b.want.put)
	if there {
		want = b.want.put[number]
	}
	if x != want || ok != there {
		b.Fatalf("%s: %s = %d, %v; want %d, %v", b.name, what, x, ok, want, there)
	}
}

func (b *both) cut(number int) {
	b.Helper()
	ok := number >= b.want.from && number <= len(b.want.put)
	if got := b.ring.Cut(number); got != ok {
		b.Fatalf("%s: Cut(%d) = %v", b.name, number, got)
	}
	if ok {
		b.want.put = b.want.put[:number]
	}
}

// fork copies the ring, and what it should be.
func (b *both) fork() *both {
	return &both{T: b.T, name: b.name + " copied", ring: b.ring.Copy(), want: model{b.want.room, b.want.from, slices.Clone(b.want.put)}}
}

// check asks all that can be asked.
func (b *both) check() {
	b.Helper()
	if b.ring.Room() != b.want.room || b.ring.Len() != len(b.want.all()) || b.ring.From() != b.want.from {
		b.Fatalf("%s: room %d, len %d, from %d; want %d, %d, %d", b.name, b.ring.Room(), b.ring.Len(), b.ring.From(), b.want.room, len(b.want.all()), b.want.from)
	}
	if got := b.ring.All(); !slices.Equal(got, b.want.all()) {
		b.Fatalf("%s: All = %v; want %v", b.name, got, b.want.all())
	}
	for number := -2; number < len(b.want.put)+b.want.room+2; number++ {
		x, ok := b.ring.At(number)
		b.taken("At", x, ok, number)
	}
	for _, number := range []int{math.MinInt, math.MinInt32, math.MaxInt32, math.MaxInt} {
		x, ok := b.ring.At(number)
		b.taken("At", x, ok, number)
	}
}

// step does what a number tells, and asks all.
func (b *both) step(op, x int) {
	b.Helper()
	switch op {
	case 0:
		b.push(x)
	case 1:
		b.pop()
	case 2:
		b.shift()
	case 3:
		b.cut(b.want.from + 1)
	case 4:
		b.ring = b.ring.Copy()
	}
	b.check()
}

const ops = 5

func TestAllShortWays(t *testing.T) { // P5.1
	const steps = 6
	for room := range 4 {
		for way := range int(math.Pow(ops, steps)) {
			b := begin(t, "short", room)
			b.check()
			for i, rest := 0, way; i < steps; i++ {
				b.step(rest%ops, 10+i)
				rest /= ops
			}
		}
	}
}

// A ring that is filled to each count, with its first thing at each place of each room, goes on as said.
func TestEveryPlace(t *testing.T) { // P5.1
	for room := 1; room <= 9; room++ {
		for once := range room + 1 {
			for gone := range room + 1 {
				for count := range room + 1 {
					b := filled(t, "place", room, once, gone, count)
					b.check()
					for i := range room - count + 1 { // more room is taken, till there is none
						b.push(300 + i)
					}
					b.check()
				}
			}
		}
	}
}

// Long ways, with rings that are long as well: what comes next is told by a plain rule, the same at each run.
func TestLongWays(t *testing.T) { // P5.1
	for _, room := range []int{1, 2, 5, 8, 33, 100} {
		b := begin(t, "long", room)
		seed := uint32(room)
		next := func(n int) int {
			seed = seed*1664525 + 1013904223
			return int(seed>>8) % n
		}
		for i := range 1500 {
			switch k := next(20); {
			case k < 10:
				b.push(i)
			case k < 13:
				b.pop()
			case k < 17:
				b.shift()
			case k < 18:
				b.cut(len(b.want.put) - next(4))
			case k < 19:
				b.cut(b.want.from + next(room+4) - 2)
			default:
				b.ring = b.ring.Copy()
			}
			if i%7 == 0 {
				b.check()
			}
		}
		b.check()
	}
}

func TestCutEdges(t *testing.T) { // P5.1
	for _, gone := range []int{0, 1, 3, 5} {
		for count := range 6 {
			for _, d := range []int{-2, -1, 0, 1, 2, 3, 4, 5, 6, 7} {
				b := filled(t, "cut", 5, 3, gone, count)
				b.cut(gone + d)
				b.check()
				for _, number := range []int{math.MinInt, -1, math.MaxInt} {
					b.cut(number)
				}
				b.check()
				b.push(20) // a number that was taken away at the end is given again
				b.push(21)
				b.check()
			}
		}
	}
}

func TestNumbersAreGivenAgain(t *testing.T) { // P5.1
	r := ring.New[string](3)
	r.Push("a")
	r.Push("b")
	r.Pop()
	r.Push("c")
	if x, ok := r.At(1); x != "c" || !ok {
		t.Errorf("behind Pop: %q, %v", x, ok)
	}
	r.Cut(0)
	r.Push("d")
	if x, ok := r.At(0); x != "d" || !ok || r.From() != 0 {
		t.Errorf("behind Cut: %q, %v, from %d", x, ok, r.From())
	}
	r.Shift()
	if _, ok := r.Pop(); ok || r.From() != 1 || r.Len() != 0 {
		t.Errorf("all gone: %v, from %d, len %d", ok, r.From(), r.Len())
	}
	r.Push("e") // one taken away at the front isn't
	if x, ok := r.At(1); x != "e" || !ok || r.From() != 1 {
		t.Errorf("behind Shift: %q, %v, from %d", x, ok, r.From())
	}
}

func TestExample(t *testing.T) { // P5.1
	r := ring.New[int](10)
	r.Push(7)
	r.Push(8)
	if x, ok := r.Shift(); x != 7 || !ok {
		t.Error("Shift", x, ok)
	}
	r.Push(9)
	for number, want := range map[int]int{1: 8, 2: 9} {
		if x, ok := r.At(number); x != want || !ok {
			t.Error("At", number, x, ok)
		}
	}
	if r.From() != 1 {
		t.Error("From", r.From())
	}
	if !r.Cut(2) || !slices.Equal(r.All(), []int{8}) {
		t.Error("Cut", r.All())
	}
}

func TestRoom(t *testing.T) { // P5.1, T8
	for _, room := range []int{math.MinInt, -1, api.MaxRoom + 1, math.MaxInt} {
		if ring.New[int](room) != nil {
			t.Errorf("New(%d) is a ring", room)
		}
	}
	for _, room := range []int{0, 1, api.MaxRoom} {
		r := ring.New[byte](room)
		if r == nil || r.Room() != room || r.Len() != 0 || r.From() != 0 || len(r.All()) != 0 {
			t.Fatalf("New(%d) isn't empty, with that room", room)
		}
		for i := range room {
			if !r.Push(byte(i)) {
				t.Fatalf("room %d: push %d", room, i)
			}
		}
		if r.Push(1) || r.Len() != room || r.Room() != room {
			t.Errorf("room %d: more than there is room for", room)
		}
		for i := range room {
			if x, ok := r.At(i); x != byte(i) || !ok {
				t.Fatalf("room %d: At(%d) = %d, %v", room, i, x, ok)
			}
		}
	}
}

func TestCopyIsApart(t *testing.T) { // P5.1
	for gone := range 7 {
		for count := range 6 {
			for op := range ops {
				b := filled(t, "apart", 5, 4, gone, count)
				c := b.fork()
				c.check()
				b.step(op, 30)
				c.check()
				c.step((op+1)%ops, 40)
				b.check()
				for i := range 6 { // both write into places that they had in common
					b.push(50 + i)
					c.push(60 + i)
					b.shift()
					c.pop()
				}
				b.check()
				c.check()
			}
		}
	}
}

func TestAllIsNewMemory(t *testing.T) { // R3
	for gone := range 4 {
		b := filled(t, "new", 3, 3, gone, 3)
		all, again := b.ring.All(), b.ring.All()
		for i := range all {
			all[i] = -1
		}
		_ = append(all[:0], -2, -2, -2)
		b.check()
		if !slices.Equal(again, b.want.all()) {
			t.Error("two answers share memory", again)
		}
		b.shift()
		b.push(20)
		if !slices.Equal(again, []int{200, 201, 202}) {
			t.Error("an answer changes behind a push", again)
		}
	}
}

func TestNilRing(t *testing.T) { // R1
	var r *ring.Ring[string]
	if r.Room() != 0 || r.Len() != 0 || r.From() != 0 || r.Push("a") || len(r.All()) != 0 || r.Copy() != nil {
		t.Error("a nil ring has something")
	}
	if x, ok := r.Pop(); x != "" || ok {
		t.Error("Pop", x, ok)
	}
	if x, ok := r.Shift(); x != "" || ok {
		t.Error("Shift", x, ok)
	}
	for _, number := range []int{math.MinInt, -1, 0, 1, math.MaxInt} {
		if x, ok := r.At(number); x != "" || ok {
			t.Error("At", number, x, ok)
		}
		if r.Cut(number) {
			t.Error("Cut", number)
		}
	}
}

func TestOtherThings(t *testing.T) { // P5.1: things of any type, also such as have no size, or can't be compared
	type row struct{ at []int }
	r := ring.New[row](2)
	r.Push(row{at: []int{1}})
	r.Push(row{})
	r.Shift()
	r.Push(row{at: []int{2, 3}})
	if x, ok := r.At(2); !ok || !slices.Equal(x.at, []int{2, 3}) {
		t.Error(x, ok)
	}
	if x, ok := r.At(0); ok || x.at != nil {
		t.Error("gone", x, ok)
	}
	n := ring.New[struct{}](2)
	if !n.Push(struct{}{}) || !n.Push(struct{}{}) || n.Push(struct{}{}) || len(n.All()) != 2 {
		t.Error("things of no size", n.Len())
	}
	a := ring.New[any](2)
	a.Push(nil)
	if x, ok := a.Pop(); x != nil || !ok {
		t.Error("a nil thing is one", x, ok)
	}
}

func TestTakenAwayIsNotHeld(t *testing.T) { // what is kept is what is there
	r := ring.New[*[64]int](8)
	var held []weak.Pointer[[64]int]
	for i := range 8 {
		x := &[64]int{i}
		held = append(held, weak.Make(x))
		r.Push(x)
	}
	r.Shift()
	r.Pop()
	r.Cut(5)
	runtime.GC()
	for i, x := range held {
		if there := i >= 1 && i < 5; (x.Value() != nil) != there {
			t.Errorf("thing %d: held is %v; want %v", i, !there, there)
		}
	}
	runtime.KeepAlive(r)
}
