package queue_test

import (
	"cmp"
	"fmt"
	"math"
	"math/rand"
	"slices"
	"testing"

	"footbridge/api"
	"footbridge/queue"
)

// compare says which of two entries the chapter takes first: that of the least order, then of the least place.
func compare(x, y api.Entry) int {
	return cmp.Or(cmp.Compare(x.Order, y.Order), cmp.Compare(x.Place, y.Place))
}

// both is an agenda, beside the entries that it should have, in no order.
type both struct {
	*testing.T
	name   string
	agenda *queue.Agenda
	want   []api.Entry
}

func begin(t *testing.T, name string) *both {
	return &both{T: t, name: name, agenda: queue.New()}
}

func (b *both) at(place int) int {
	return slices.IndexFunc(b.want, func(e api.Entry) bool { return e.Place == place })
}

func (b *both) put(e api.Entry) {
	b.agenda.Put(e)
	if at := b.at(e.Place); at >= 0 {
		b.want = slices.Delete(b.want, at, at+1)
	}
	b.want = append(b.want, e)
}

func (b *both) drop(place int) {
	b.Helper()
	at := b.at(place)
	if got := b.agenda.Drop(place); got != (at >= 0) {
		b.Fatalf("%s: Drop(%d) = %v", b.name, place, got)
	}
	if at >= 0 {
		b.want = slices.Delete(b.want, at, at+1)
	}
}

func (b *both) take() {
	b.Helper()
	var want api.Entry
	there := len(b.want) > 0
	if there {
		want = slices.MinFunc(b.want, compare)
		at := b.at(want.Place)
		b.want = slices.Delete(b.want, at, at+1)
	}
	if got, ok := b.agenda.Take(); got != want || ok != there {
		b.Fatalf("%s: Take() = %v, %v; want %v, %v", b.name, got, ok, want, there)
	}
}

// check asks how many entries there are, and for those of some places.
func (b *both) check(places ...int) {
	b.Helper()
	if got := b.agenda.Len(); got != len(b.want) {
		b.Fatalf("%s: Len() = %d; want %d", b.name, got, len(b.want))
	}
	for _, place := range places {
		var want api.Entry
		at := b.at(place)
		if at >= 0 {
			want = b.want[at]
		}
		if got, ok := b.agenda.Has(place); got != want || ok != (at >= 0) {
			b.Fatalf("%s: Has(%d) = %v, %v; want %v, %v", b.name, place, got, ok, want, at >= 0)
		}
	}
}

// drain takes all there is, and once more.
func (b *both) drain(places ...int) {
	b.Helper()
	for range len(b.want) + 1 {
		b.take()
		b.check(places...)
	}
}

// drained is what an agenda gives, one behind the other.
func drained(a *queue.Agenda) []api.Entry {
	var l []api.Entry
	for e, ok := a.Take(); ok; e, ok = a.Take() {
		l = append(l, e)
	}
	return l
}

// P11.1: the chapter's example.
func TestExample(t *testing.T) {
	a := queue.New()
	for _, e := range []api.Entry{{Place: 5, Order: 1}, {Place: 2, Order: 1}, {Place: 9, Order: 0}} {
		a.Put(e)
	}
	for _, place := range []int{9, 2, 5} {
		if e, ok := a.Take(); !ok || e.Place != place {
			t.Errorf("Take() = %v, %v; want the entry of %d", e, ok, place)
		}
	}
	if e, ok := a.Take(); ok || e != (api.Entry{}) {
		t.Errorf("Take() behind all = %v, %v", e, ok)
	}
}

// P11.1: a new agenda has nothing, and each New is one of its own.
func TestNew(t *testing.T) {
	b := begin(t, "new")
	b.check(-1, 0, 1)
	b.drop(0)
	b.take()
	b.check(-1, 0, 1)

	other := begin(t, "other")
	b.put(api.Entry{Place: 1, Order: 2, Out: 3})
	other.check(0, 1)
	other.put(api.Entry{Place: 1, Order: 4, Out: 5})
	other.put(api.Entry{Place: 0, Order: 1})
	b.check(0, 1)
	b.drain(0, 1)
	other.drain(0, 1)
}

// P11.1: an entry takes the place of the one there was, whether its order is less, the same or greater, and with its own Out.
func TestPutAgain(t *testing.T) {
	const places = 12
	for place := range places {
		for order := -1; order <= 2*places; order++ {
			b := begin(t, fmt.Sprintf("%d at order %d", place, order))
			for i := range places {
				b.put(api.Entry{Place: i, Order: 2 * (i * 5 % places), Out: 100 + i})
			}
			b.put(api.Entry{Place: place, Order: order, Out: -7})
			b.check(place, place-1, place+1)
			b.put(b.want[len(b.want)-1])
			b.check(place)
			b.drain(place)
		}
	}
}

// P11.1: whichever entry is dropped, the others stay, and go out in their order.
func TestDropEach(t *testing.T) {
	for count := range 14 {
		for place := -1; place <= count; place++ {
			for step := 1; step < 14; step++ {
				b := begin(t, fmt.Sprintf("%d of %d by %d", place, count, step))
				for i := range count {
					b.put(api.Entry{Place: i, Order: i * step % 13, Out: i})
				}
				b.drop(place)
				b.drop(place)
				b.check(place, 0, count-1, count)
				b.drain()
			}
		}
	}
}

// P11.1: a place that was dropped or taken can be had again.
func TestPutBehindDropAndTake(t *testing.T) {
	b := begin(t, "again")
	for round := range 5 {
		b.put(api.Entry{Place: 3, Order: 5 - round, Out: round})
		b.put(api.Entry{Place: 4, Order: round, Out: -round})
		b.drop(3)
		b.check(3, 4)
		b.put(api.Entry{Place: 3, Order: round, Out: 10 + round})
		b.check(3, 4)
		b.take()
		b.check(3, 4)
		b.drop(3)
		b.check(3, 4)
	}
	b.drain(3, 4)
	b.put(api.Entry{Place: 4})
	b.check(3, 4)
	b.drain(3, 4)
}

// P11.1: an entry of zeroes is one like any other.
func TestZeroEntry(t *testing.T) {
	b := begin(t, "zero")
	b.put(api.Entry{})
	b.check(0, 1)
	b.put(api.Entry{Place: -1})
	b.check(-1, 0, 1)
	b.drain(-1, 0)
}

const ways = 10

// step does one of the things that can be done at three places and two orders.
func (b *both) step(way, out int) {
	b.Helper()
	switch {
	case way < 6:
		b.put(api.Entry{Place: way%3 - 1, Order: way / 3, Out: out})
	case way < 9:
		b.drop(way - 7)
	default:
		b.take()
	}
	b.check(-2, -1, 0, 1, 2)
}

// P11.1: all rows of five calls.
func TestAllShortWays(t *testing.T) {
	const steps = 5
	for way := range int(math.Pow(ways, steps)) {
		b := begin(t, fmt.Sprintf("way %d", way))
		for out := range steps {
			b.step(way%ways, out)
			way /= ways
		}
		b.drain(-1, 0, 1)
	}
}

// P11.1: many calls, at few and many places, with few and many orders.
func TestLongWays(t *testing.T) {
	r := rand.New(rand.NewSource(11))
	for _, places := range []int{2, 7, 60, 1000} {
		for _, orders := range []int{1, 3, 50, math.MaxInt} {
			b := begin(t, fmt.Sprintf("%d places, %d orders", places, orders))
			for i := range 6000 {
				place := r.Intn(places) - places/2
				switch r.Intn(6) {
				case 0:
					b.drop(place)
				case 1:
					b.take()
				default:
					b.put(api.Entry{Place: place, Order: r.Intn(orders) - orders/2, Out: i})
				}
				b.check(place, r.Intn(places))
			}
			b.drain()
		}
	}
}

// P11.1, P11.2: the least and the greatest numbers are places and orders, too.
func TestHugeNumbers(t *testing.T) {
	huge := []int{math.MinInt, math.MinInt + 1, math.MinInt32, -1, 0, 1, math.MaxInt32, math.MaxInt - 1, math.MaxInt}
	for first := range huge {
		b := begin(t, fmt.Sprint("from ", huge[first]))
		for i := range huge {
			b.put(api.Entry{Place: huge[(first+i)%len(huge)], Order: huge[(first+2*i)%len(huge)], Out: huge[i]})
		}
		b.check(huge...)
		b.drain(huge...)
		for i := range huge {
			b.put(api.Entry{Place: huge[(first+4*i)%len(huge)], Order: huge[first], Out: huge[i]})
		}
		b.drop(huge[first])
		b.drain(huge...)
	}
}

// P11.2: however entries came in, they go out in the same order.
func TestAllOrdersOfPutting(t *testing.T) {
	entries := []api.Entry{{Place: 5, Order: 1, Out: 1}, {Place: 2, Order: 1, Out: 2}, {Place: 9, Order: 0, Out: 3}, {Place: -4, Order: 7, Out: 4}, {Place: 8, Order: -3, Out: 5}, {Place: 1, Order: 1, Out: 6}}
	want := []api.Entry{entries[4], entries[2], entries[5], entries[1], entries[0], entries[3]}
	var all func(done int)
	all = func(done int) {
		if done == len(entries) {
			a := queue.New()
			for _, e := range entries {
				a.Put(e)
			}
			if got := drained(a); !slices.Equal(got, want) {
				t.Fatalf("put %v: taken %v; want %v", entries, got, want)
			}
			return
		}
		for i := done; i < len(entries); i++ {
			entries[done], entries[i] = entries[i], entries[done]
			all(done + 1)
			entries[done], entries[i] = entries[i], entries[done]
		}
	}
	all(0)
}

// P11.2: what is taken rises, by order and then by place, whatever was put, dropped and taken ahead.
func TestTakenRises(t *testing.T) {
	r := rand.New(rand.NewSource(112))
	for round := range 200 {
		a := queue.New()
		for i := range r.Intn(400) {
			a.Put(api.Entry{Place: r.Intn(150), Order: r.Intn(1 + round), Out: i})
			if r.Intn(5) == 0 {
				a.Drop(r.Intn(150))
			}
			if r.Intn(9) == 0 {
				a.Take()
			}
		}
		count := a.Len()
		taken := drained(a)
		if len(taken) != count || a.Len() != 0 {
			t.Fatalf("round %d: %d taken of %d, %d left", round, len(taken), count, a.Len())
		}
		for i := 1; i < len(taken); i++ {
			if compare(taken[i-1], taken[i]) >= 0 {
				t.Fatalf("round %d: %v, then %v", round, taken[i-1], taken[i])
			}
		}
	}
}

// P11.1: the same calls are answered alike, each time.
func TestSameAgain(t *testing.T) {
	made := func() []api.Entry {
		a := queue.New()
		for i := range 500 {
			a.Put(api.Entry{Place: i * 7 % 131, Order: i * i % 17, Out: i})
			a.Drop(i * 3 % 131)
		}
		return drained(a)
	}
	first := made()
	for range 20 {
		if got := made(); len(got) == 0 || !slices.Equal(got, first) {
			t.Fatalf("%v, then %v", first, got)
		}
	}
}

// P11.1: a nil agenda has nothing, and takes nothing.
func TestNil(t *testing.T) {
	var a *queue.Agenda
	for range 2 {
		if got := a.Len(); got != 0 {
			t.Error("Len:", got)
		}
		for _, place := range []int{math.MinInt, -1, 0, 1, math.MaxInt} {
			if a.Drop(place) {
				t.Error("Drop:", place)
			}
			if e, ok := a.Has(place); ok || e != (api.Entry{}) {
				t.Error("Has:", place, e, ok)
			}
		}
		if e, ok := a.Take(); ok || e != (api.Entry{}) {
			t.Error("Take:", e, ok)
		}
		a.Put(api.Entry{Place: 1, Order: 2, Out: 3})
	}
}
