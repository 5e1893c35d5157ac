package cache_test

import (
	"fmt"
	"math"
	"math/rand"
	"slices"
	"strings"
	"testing"

	"footbridge/api"
	"footbridge/cache"
)

// held is a key and its row.
type held struct {
	key string
	row []int
}

// both is a cache, beside what it should have: the eldest one first.
type both struct {
	*testing.T
	name    string
	cache   *cache.Cache
	room    int
	want    []held
	yes, no int
}

func begin(t *testing.T, room int, name string) *both {
	t.Helper()
	b := &both{T: t, name: name, cache: cache.New(room), room: room}
	if b.cache == nil {
		t.Fatalf("%s: New(%d) = nil", name, room)
	}
	return b
}

// out takes a key's row out of what there should be.
func (b *both) out(key string) (held, bool) {
	at := slices.IndexFunc(b.want, func(h held) bool { return h.key == key })
	if at < 0 {
		return held{}, false
	}
	h := b.want[at]
	b.want = slices.Delete(b.want, at, at+1)
	return h, true
}

func (b *both) get(key string) {
	b.Helper()
	h, there := b.out(key)
	if there {
		b.want = append(b.want, h)
		b.yes++
	} else {
		b.no++
	}
	if got, ok := b.cache.Get(key); ok != there || !slices.Equal(got, h.row) {
		b.Fatalf("%s: Get(%q) = %v, %v; want %v, %v", b.name, key, got, ok, h.row, there)
	}
}

func (b *both) put(key string, row ...int) {
	b.cache.Put(key, row)
	b.out(key)
	b.want = append(b.want, held{key, row})
	if len(b.want) > b.room {
		b.want = b.want[1:]
	}
}

// check asks what can be asked without making a key newer.
func (b *both) check() {
	b.Helper()
	if got := b.cache.Keys(); !slices.EqualFunc(got, b.want, func(key string, h held) bool { return key == h.key }) {
		b.Fatalf("%s: Keys() = %q; want those of %v", b.name, got, b.want)
	}
	if got := b.cache.Len(); got != len(b.want) {
		b.Fatalf("%s: Len() = %d; want %d", b.name, got, len(b.want))
	}
	if got := b.cache.Room(); got != b.room {
		b.Fatalf("%s: Room() = %d; want %d", b.name, got, b.room)
	}
	if yes, no := b.cache.Counts(); yes != b.yes || no != b.no {
		b.Fatalf("%s: Counts() = %d, %d; want %d, %d", b.name, yes, no, b.yes, b.no)
	}
}

// P15.1: the chapter's example.
func TestExample(t *testing.T) {
	c := cache.New(2)
	c.Put("a", []int{1})
	c.Put("b", []int{2})
	c.Get("a")
	c.Put("c", []int{3})
	if got := c.Keys(); !slices.Equal(got, []string{"a", "c"}) {
		t.Errorf("Keys() = %q", got)
	}
	if row, ok := c.Get("a"); !ok || !slices.Equal(row, []int{1}) {
		t.Errorf("Get(a) = %v, %v", row, ok)
	}
	if row, ok := c.Get("b"); ok || len(row) != 0 {
		t.Errorf("Get(b) = %v, %v", row, ok)
	}
}

// P15.1: a cache has any room from 0 to MaxRoom, and no other.
func TestNew(t *testing.T) {
	for _, room := range []int{math.MinInt, math.MinInt32, -2, -1, api.MaxRoom + 1, api.MaxRoom + 2, math.MaxInt32, math.MaxInt} {
		if c := cache.New(room); c != nil {
			t.Errorf("New(%d) isn't nil", room)
		}
	}
	for _, room := range []int{0, 1, 2, 1000, api.MaxRoom - 1, api.MaxRoom} {
		begin(t, room, fmt.Sprint("room ", room)).check()
	}
}

// P15.1: with room for none nothing stays, but what Get answers is counted.
func TestNoRoom(t *testing.T) {
	b := begin(t, 0, "no room")
	for _, key := range []string{"a", "", "b", "a"} {
		b.put(key, 1, 2)
		b.check()
		b.get(key)
		b.check()
	}
	if _, no := b.cache.Counts(); no != 4 {
		t.Errorf("%d times nothing; want 4", no)
	}
}

// P15.1: rows stay till there would be more than room, then the eldest one goes, for each room.
func TestFull(t *testing.T) {
	for room := range 9 {
		b := begin(t, room, fmt.Sprint("room ", room))
		for i := range 3*room + 2 {
			b.put(fmt.Sprint(i), i, -i)
			b.check()
		}
		for i := range 3*room + 2 {
			b.get(fmt.Sprint(i))
			b.check()
		}
	}
}

// P15.1: each key, got or put again, is the newest one, and all others go ahead of it, in their order.
func TestNewer(t *testing.T) {
	const room = 7
	touches := map[string]func(b *both, key string){
		"got":       func(b *both, key string) { b.get(key) },
		"put":       func(b *both, key string) { b.put(key, 9, 9) },
		"put alike": func(b *both, key string) { b.put(key, int(key[0])) },
	}
	for name, touch := range touches {
		for count := 1; count <= room; count++ {
			for first := range count {
				for second := range count {
					b := begin(t, room, fmt.Sprintf("%s: %d, then %d of %d", name, first, second, count))
					for i := range count {
						b.put(string(rune('a'+i)), 'a'+i)
					}
					touch(b, string(rune('a'+first)))
					b.check()
					touch(b, string(rune('a'+second)))
					b.check()
					for i := range room {
						b.put(string(rune('A'+i)), i)
						b.check()
					}
				}
			}
		}
	}
}

// P15.1: a row that is put stands in the place of the one there was, whichever of them is longer; none goes for it.
func TestPutAgain(t *testing.T) {
	rows := [][]int{nil, {}, {0}, {1}, {1, 2}, {2, 1}, {math.MinInt, -1, math.MaxInt}, make([]int, 3000)}
	for i, one := range rows {
		for j, other := range rows {
			b := begin(t, 2, fmt.Sprintf("row %d, then %d", i, j))
			b.put("a", one...)
			b.put("b", 5)
			b.put("a", other...)
			b.check()
			b.get("b")
			b.get("a")
			b.put("a", one...)
			b.get("a")
			b.get("b")
			b.check()
		}
	}
}

// P15.1: what isn't there is none, counts as such, and makes nothing newer.
func TestGetNone(t *testing.T) {
	b := begin(t, 3, "none")
	for i, key := range []string{"a", "b", "c", "d"} {
		b.get("z")
		b.get(key)
		b.put(key, i)
		b.get("")
		b.get("a")
		b.check()
	}
	b.get("b")
	b.get("c")
	b.get("b")
	b.check()
}

// P15.1: a key is any text, and another one where any byte is another.
func TestKeys(t *testing.T) {
	keys := []string{"", "\x00", "\x00\x00", "a", "A", "a\x00", "\xff", "\xfe", "ÿ", "aa", "é", "e\u0301", strings.Repeat("x", 5000), strings.Repeat("x", 4999) + "y"}
	for b := range 256 {
		keys = append(keys, "byte "+string([]byte{byte(b)}))
	}
	b := begin(t, len(keys), "keys")
	for i, key := range keys {
		b.get(key)
		b.put(key, i)
		b.check()
	}
	for _, key := range keys {
		b.get(key)
	}
	b.check()
	for i, key := range keys {
		b.put(key+"|", i)
		b.get(key)
	}
	b.check()
}

const (
	keys = 4
	ways = 2 * keys
)

// step puts or gets one of a few keys.
func (b *both) step(way, number int) {
	b.Helper()
	key := string(rune('a' + way%keys))
	if way < keys {
		b.put(key, number, way)
	} else {
		b.get(key)
	}
	b.check()
}

// P15.1: all rows of five calls, for each room from none to more than there are keys.
func TestAllShortWays(t *testing.T) {
	const steps = 5
	for room := range keys + 2 {
		for way := range int(math.Pow(ways, steps)) {
			b := begin(t, room, fmt.Sprintf("room %d, way %d", room, way))
			for number := range steps {
				b.step(way%ways, number)
				way /= ways
			}
		}
	}
}

// P15.1: many calls, with few and many keys, and less or more room than these.
func TestLongWays(t *testing.T) {
	r := rand.New(rand.NewSource(15))
	for _, room := range []int{1, 2, 3, 10, 64, 300} {
		for _, names := range []int{1, 2, 12, 70, 900} {
			b := begin(t, room, fmt.Sprintf("room %d, %d keys", room, names))
			for i := range 4000 {
				key := fmt.Sprint("key ", r.Intn(names))
				if r.Intn(2) == 0 {
					b.get(key)
				} else {
					row := make([]int, i%5)
					b.put(key, append(row, i)...)
				}
				if room*names < 1000 || i%50 == 0 {
					b.check()
				}
			}
			b.check()
		}
	}
}

// P15.1: the greatest room can be filled, and then the eldest rows go.
func TestGreatestRoom(t *testing.T) {
	c := cache.New(api.MaxRoom)
	const more = 3
	for i := range api.MaxRoom + more {
		c.Put(fmt.Sprint(i), []int{i})
		if want := min(i+1, api.MaxRoom); c.Len() != want {
			t.Fatalf("%d put: Len() = %d", i+1, c.Len())
		}
	}
	got := c.Keys()
	if len(got) != api.MaxRoom {
		t.Fatalf("%d keys", len(got))
	}
	for i, key := range got {
		if key != fmt.Sprint(i+more) {
			t.Fatalf("key %d is %q", i, key)
		}
	}
	for i := range api.MaxRoom + more {
		row, ok := c.Get(fmt.Sprint(i))
		if i < more && (ok || len(row) != 0) || i >= more && (!ok || !slices.Equal(row, []int{i})) {
			t.Fatalf("Get(%d) = %v, %v", i, row, ok)
		}
	}
	if yes, no := c.Counts(); yes != api.MaxRoom || no != more {
		t.Errorf("Counts() = %d, %d", yes, no)
	}
}

// P15.1: whoever writes into what was handed in or answered changes nothing.
func TestApart(t *testing.T) {
	c := cache.New(3)
	row := make([]int, 2, 10)
	row[0], row[1] = 1, 2
	c.Put("a", row)
	c.Put("b", row)
	row[0] = 7
	_ = append(row, 8)
	for range 2 {
		for _, key := range []string{"a", "b"} {
			got, ok := c.Get(key)
			if !ok || !slices.Equal(got, []int{1, 2}) {
				t.Fatalf("Get(%q) = %v, %v", key, got, ok)
			}
			got[1] = 9
			_ = append(got, 9)
		}
	}
	first := c.Keys()
	first[0] = "z"
	_ = append(first, "z")
	if got := c.Keys(); !slices.Equal(got, []string{"a", "b"}) {
		t.Errorf("Keys() = %q", got)
	}

	bytes := []byte("text")
	key := string(bytes)
	c.Put(key[1:3], []int{4})
	copy(bytes, "....")
	if got, ok := c.Get("ex"); !ok || !slices.Equal(got, []int{4}) {
		t.Errorf("Get(ex) = %v, %v", got, ok)
	}
}

// P15.1: what is done to one cache doesn't matter to another.
func TestTwoCaches(t *testing.T) {
	one, other := begin(t, 2, "one"), begin(t, 3, "other")
	for i := range 40 {
		key := string(rune('a' + i*i%5))
		one.put(key, i)
		other.get(key)
		other.put(string(rune('a'+i%4)), -i)
		one.get(string(rune('a' + i%4)))
		one.check()
		other.check()
	}
}

// P15.1: the same calls are answered alike, each time.
func TestSameAgain(t *testing.T) {
	made := func() string {
		c := cache.New(20)
		for i := range 2000 {
			c.Put(fmt.Sprint(i*i%53), []int{i})
			c.Get(fmt.Sprint(i * 7 % 61))
		}
		yes, no := c.Counts()
		return fmt.Sprintf("%q %d %d", c.Keys(), yes, no)
	}
	first := made()
	for range 20 {
		if got := made(); got != first {
			t.Fatalf("%s, then %s", first, got)
		}
	}
}

// P15.1: a nil cache has nothing, and takes nothing.
func TestNil(t *testing.T) {
	var c *cache.Cache
	for range 2 {
		if got := c.Room(); got != 0 {
			t.Error("Room:", got)
		}
		if got := c.Len(); got != 0 {
			t.Error("Len:", got)
		}
		for _, key := range []string{"", "a"} {
			if row, ok := c.Get(key); ok || row != nil {
				t.Error("Get:", row, ok)
			}
		}
		if yes, no := c.Counts(); yes != 0 || no != 0 {
			t.Error("Counts:", yes, no)
		}
		if got := c.Keys(); got != nil {
			t.Errorf("Keys: %q", got)
		}
		c.Put("a", []int{1})
	}
}
