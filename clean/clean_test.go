package clean

import (
	"bytes"
	"math"
	"math/big"
	"slices"
	"sort"
	"strconv"
	"strings"
	"sync"
	"testing"

	"cooperage/api"
)

// slowOver tells by numbers that have no end whether now is more than grace behind time.
func slowOver(time, now, grace int) bool {
	behind := new(big.Int).Sub(big.NewInt(int64(now)), big.NewInt(int64(time)))
	return behind.Cmp(big.NewInt(int64(grace))) > 0
}

// slowStays says P1301's sentence of Keep of one record, and those that stand behind it.
func slowStays(r api.Record, behind []api.Record, point, now, grace int, dead bool) bool {
	if r.Offset >= point {
		return true
	}
	for _, s := range behind {
		if s.Key == r.Key && s.Offset < point {
			return false
		}
	}
	return !(r.Dead && dead && slowOver(r.Time, now, grace))
}

func slowKeep(l []api.Record, point, now, grace int, dead bool) []api.Record {
	out := []api.Record{}
	for i, r := range l {
		if slowStays(r, l[i+1:], point, now, grace, dead) {
			out = append(out, r)
		}
	}
	return out
}

// slowMap says P1301's sentence of Map: each record takes away what stands there of its Key, and comes itself if it is not Dead.
func slowMap(l []api.Record) []api.Record {
	out := []api.Record{}
	for _, r := range l {
		out = slices.DeleteFunc(out, func(s api.Record) bool { return s.Key == r.Key })
		if !r.Dead {
			out = append(out, r)
		}
	}
	sort.Slice(out, func(i, j int) bool { return bytes.Compare([]byte(out[i].Key), []byte(out[j].Key)) < 0 })
	return out
}

// keeps fails if Keep of l is not want.
func keeps(t *testing.T, l []api.Record, point, now, grace int, dead bool, want []api.Record) {
	t.Helper()
	if got := Keep(l, point, now, grace, dead); !slices.Equal(got, want) {
		t.Fatalf("P1301: Keep of %v, %d, %d, %d, %v: %v, want %v", l, point, now, grace, dead, got, want)
	}
}

// keepsAsSlow fails if Keep of l is not what the sentence says, or if Keep of that is another one.
func keepsAsSlow(t *testing.T, l []api.Record, point, now, grace int, dead bool) {
	t.Helper()
	want := slowKeep(l, point, now, grace, dead)
	keeps(t, l, point, now, grace, dead, want)
	keeps(t, want, point, now, grace, dead, want)
}

// maps fails if Map of l is not want.
func maps(t *testing.T, l, want []api.Record) {
	t.Helper()
	if got := Map(l); !slices.Equal(got, want) {
		t.Fatalf("P1301: Map of %v: %v, want %v", l, got, want)
	}
}

// row makes a list of words: "a=v" is a Value, "a" is Dead; Offsets and Times are 10, 20, 30 ..
func row(s string) []api.Record {
	l := []api.Record{}
	for i, w := range strings.Fields(s) {
		key, value, ok := strings.Cut(w, "=")
		l = append(l, api.Record{Offset: 10 * (i + 1), Time: 10 * (i + 1), Key: key, Value: value, Dead: !ok})
	}
	return l
}

// picked are the records of l at these Offsets.
func picked(l []api.Record, offsets ...int) []api.Record {
	return slices.DeleteFunc(slices.Clone(l), func(r api.Record) bool { return !slices.Contains(offsets, r.Offset) })
}

// numbers are ints at the edges, and those about 0.
func numbers() []int {
	return []int{
		math.MinInt, math.MinInt + 1, math.MinInt + 2, math.MinInt/2 - 1, math.MinInt / 2, math.MinInt/2 + 1, math.MinInt32, -api.MaxTime, -2, -1,
		0, 1, 2, api.MaxTime, math.MaxUint32 + 1, math.MaxInt / 2, math.MaxInt/2 + 1, math.MaxInt/2 + 2, math.MaxInt - 2, math.MaxInt - 1, math.MaxInt,
	}
}

// keys are those at the edges, by their rising bytes: fronts of each other, and bytes that are no text.
func keys() []string {
	return []string{
		"", "\x00", "\x00\x00", "\x00a", "A", "B", "a", "a\x00", "a ", "aA", "aa", "aaa", "ab", "b", "e\u0301", "~", "\x7f", "\x80", "\xbf", "\xc3", "é", "é\x00",
		"\xe6\x97", "日", "日\xff", "\uffff", "😀", "\xf8", "\xff", "\xff\x00", "\xff\xff", "\xff\xff" + strings.Repeat("k", 200), "\xff\xff" + strings.Repeat("k", 300),
	}
}

func TestP1301Example(t *testing.T) {
	l := row("a=1 a=2")
	keeps(t, l, 21, 0, 0, false, l[1:])
	keeps(t, l, 100, 0, 0, true, l[1:])
	maps(t, l, l[1:])
}

func TestP1301NoRecords(t *testing.T) {
	for _, l := range [][]api.Record{nil, {}, row("a=1 a=2")[:0]} {
		for _, n := range numbers() {
			keeps(t, l, n, n, n, true, nil)
			keeps(t, l, n, n, n, false, nil)
		}
		maps(t, l, nil)
	}
}

func TestP1301OneRecord(t *testing.T) {
	live, gone := row("a=1"), row("a")
	for _, point := range []int{math.MinInt, -1, 0, 9, 10, 11, math.MaxInt} {
		keeps(t, live, point, 11, 0, true, live)
		keeps(t, live, point, 11, 0, false, live)
		keeps(t, gone, point, 10, 0, true, gone)
		keeps(t, gone, point, 11, 0, false, gone)
		want := gone
		if point > 10 {
			want = nil
		}
		keeps(t, gone, point, 11, 0, true, want)
	}
	maps(t, live, live)
	maps(t, gone, nil)
}

// TestP1301SeveralKeys cleans rows of some keys, up to each point at, one below and one above an Offset.
func TestP1301SeveralKeys(t *testing.T) {
	for _, x := range []struct {
		s    string
		want map[int][]int // the Offsets that stay, by the least point from which on they do
	}{
		{"a=1 a=2", map[int][]int{0: {10, 20}, 21: {20}}},
		{"a=1 b=1 a=2 b=2 a=3", map[int][]int{0: {10, 20, 30, 40, 50}, 31: {20, 30, 40, 50}, 41: {30, 40, 50}, 51: {40, 50}}},
		{"a=1 b=1 a b=2 c=1", map[int][]int{0: {10, 20, 30, 40, 50}, 31: {20, 40, 50}, 41: {40, 50}}},
		{"a b c=1 a=2 b", map[int][]int{0: {10, 20, 30, 40, 50}, 11: {20, 30, 40, 50}, 21: {30, 40, 50}, 51: {30, 40}}},
		{"a=1 b=2 c=3", map[int][]int{0: {10, 20, 30}}},
		{"a a a", map[int][]int{0: {10, 20, 30}, 11: {20, 30}, 21: {30}, 31: {}}},
	} {
		l := row(x.s)
		want := []int{}
		for point := 0; point < 70; point++ {
			if offsets, ok := x.want[point]; ok {
				want = offsets
			}
			keeps(t, l, point, 1000, 0, true, picked(l, want...))
		}
		keeps(t, l, math.MaxInt, 1000, 0, true, picked(l, want...))
		for _, point := range []int{math.MinInt, -100, -1} {
			keeps(t, l, point, 1000, 0, true, l)
		}
	}
}

// TestP1301Dead tries what a dead record might be taken for, and what for one.
func TestP1301Dead(t *testing.T) {
	for _, x := range []struct {
		s                 string
		point, now, grace int
		dead              bool
		want              []int
		why               string
	}{
		{"a=1 a", 21, 20, 0, true, []int{20}, "just grace behind"},
		{"a=1 a", 21, 21, 0, true, nil, "one more than grace behind"},
		{"a=1 a", 21, 25, 5, true, []int{20}, "just grace behind"},
		{"a=1 a", 21, 26, 5, true, nil, "one more than grace behind"},
		{"a=1 a", 21, 15, -5, true, []int{20}, "just a grace below 0 behind"},
		{"a=1 a", 21, 16, -5, true, nil, "one more than a grace below 0 behind"},
		{"a=1 a", 21, math.MaxInt, math.MinInt, false, []int{20}, "the dead stay"},
		{"a=1 a", 20, math.MaxInt, 0, true, []int{10, 20}, "it does not stand ahead of the point"},
		{"a a=1", 21, 0, 1000, true, []int{20}, "gone for a later one, whatever its Time is"},
		{"a a=1", 21, 0, 1000, false, []int{20}, "gone for a later one, whatever dead is"},
		{"a a", 21, 0, 1000, true, []int{20}, "gone for a later one, though that is dead"},
		{"a a=1", 20, 0, 1000, true, []int{10, 20}, "the later one is not ahead of the point"},
		{"a a=1", 20, 1011, 1000, true, []int{20}, "the later one is not ahead of the point, and its time is up"},
		{"a=1 b=2", 21, math.MaxInt, math.MinInt, true, []int{10, 20}, "no live one is too old"},
		{"a a=1 a a=2 a", 51, 60, 10, true, []int{50}, "the last one alone counts"},
		{"a a=1 a a=2 a", 51, 61, 10, true, nil, "the last one alone counts"},
		{"a a=1 a a=2", 41, 1000, 10, true, []int{40}, "it is not dead any more"},
		{"a b", 21, 21, 10, true, []int{20}, "each has its own Time"},
	} {
		l := row(x.s)
		want := picked(l, x.want...)
		if got := Keep(l, x.point, x.now, x.grace, x.dead); !slices.Equal(got, want) {
			t.Errorf("P1301: %s: Keep of %q, %d, %d, %d, %v: %v, want %v", x.why, x.s, x.point, x.now, x.grace, x.dead, got, want)
		}
	}
}

// TestP1301BothSides has two records of one key on both sides of the point, whose Times do not count, in both orders.
func TestP1301BothSides(t *testing.T) {
	for _, dead := range []bool{false, true} {
		low := api.Record{Offset: 4, Time: 9, Key: "k", Value: "low"}
		high := api.Record{Offset: 5, Time: 2, Key: "k", Value: "high", Dead: dead}
		for _, l := range [][]api.Record{{low, high}, {high, low}} {
			keeps(t, l, 4, 100, 0, true, l)
			keeps(t, l, 5, 100, 0, true, l)
		}
		keeps(t, []api.Record{low, high}, 6, 100, 98, true, []api.Record{high})
		keeps(t, []api.Record{high, low}, 6, 100, 0, true, []api.Record{low})
	}
}

// TestP1301AnyOffsets has Offsets that do not rise: what stands behind is told by the list, and by no Offset.
func TestP1301AnyOffsets(t *testing.T) {
	at := func(offsets ...int) []api.Record {
		l := []api.Record{}
		for _, n := range offsets {
			l = append(l, api.Record{Offset: n, Key: "k"})
		}
		return l
	}
	keeps(t, at(9, 2, 7, 1), 5, 0, 0, false, at(9, 7, 1))
	keeps(t, at(9, 2, 7, 1), 2, 0, 0, false, at(9, 2, 7, 1))
	keeps(t, at(9, 2, 7, 1), 8, 0, 0, false, at(9, 1))
	keeps(t, at(9, 2, 7, 1), 10, 0, 0, false, at(1))
	keeps(t, at(1, 9), 5, 0, 0, false, at(1, 9))
	keeps(t, at(3, 3, 3), 4, 0, 0, false, at(3))
	keeps(t, at(3, 3, 3), 3, 0, 0, false, at(3, 3, 3))
	keeps(t, at(-5, -7), -4, 0, 0, false, at(-7))
	keeps(t, at(-5, -7), -5, 0, 0, false, at(-5, -7))
	keeps(t, at(math.MaxInt, math.MinInt, 0), math.MaxInt, 0, 0, false, at(math.MaxInt, 0))
	keeps(t, at(math.MaxInt, math.MinInt, math.MinInt), math.MinInt, 0, 0, false, at(math.MaxInt, math.MinInt, math.MinInt))
	keeps(t, at(math.MinInt, math.MinInt), math.MinInt+1, 0, 0, false, at(math.MinInt))
	keeps(t, at(math.MaxInt, math.MaxInt-1, math.MaxInt-1), math.MaxInt, 0, 0, false, at(math.MaxInt, math.MaxInt-1))
}

// TestP1301NoEnd has now, grace and Times whose differences have no place in an int.
func TestP1301NoEnd(t *testing.T) {
	for _, time := range numbers() {
		l := []api.Record{{Offset: 1, Time: time, Key: "k", Dead: true}}
		live := []api.Record{{Offset: 1, Time: time, Key: "k"}}
		for _, now := range numbers() {
			for _, grace := range numbers() {
				keepsAsSlow(t, l, 2, now, grace, true)
				keeps(t, l, 2, now, grace, false, l)
				keeps(t, l, 1, now, grace, true, l)
				keeps(t, live, 2, now, grace, true, live)
			}
		}
	}
	// Named ones, so that no other way of counting stands between.
	top, low := math.MaxInt, math.MinInt
	for _, x := range []struct {
		time, now, grace int
		over             bool
	}{
		{low, top, top, true}, {top, low, low, false}, {low, low, 0, false}, {low, low, -1, true}, {top, top, 0, false}, {top, top, -1, true},
		{0, top, top, false}, {-1, top, top, true}, {0, low, low, false}, {-1, low, low, true}, {0, top, low, true}, {1, low, low, false},
		{low, -1, top, false}, {low, 0, top, true}, {top, -1, low, false}, {top, 0, low, true}, {top, low, top, false}, {low, top, low, true},
	} {
		l := []api.Record{{Time: x.time, Key: "k", Dead: true}}
		want := l
		if x.over {
			want = nil
		}
		keeps(t, l, 1, x.now, x.grace, true, want)
	}
}

func TestP1301Numbers(t *testing.T) {
	for _, offset := range numbers() {
		for _, behind := range numbers() {
			l := []api.Record{{Offset: offset, Time: 5, Key: "k", Value: "v"}, {Offset: behind, Time: 6, Key: "k", Dead: true}}
			for _, point := range numbers() {
				keepsAsSlow(t, l, point, 6, 0, true)
				keepsAsSlow(t, l, point, 7, 0, true)
			}
			maps(t, l, nil)
			l[1].Dead = false
			maps(t, l, l[1:])
		}
	}
}

// TestP1301Keys has each key once, then a second time in the other order: no key is taken for another one.
func TestP1301Keys(t *testing.T) {
	var l []api.Record
	for i, key := range keys() {
		l = append(l, api.Record{Offset: i, Time: i, Key: key, Value: strconv.Itoa(i)})
	}
	count := len(l)
	keeps(t, l, count, 1000, 0, true, l)
	maps(t, l, l)

	var down []api.Record
	for i, r := range slices.Backward(l) {
		down = append(down, api.Record{Offset: 2*count - i, Time: 7, Key: r.Key, Value: "again"})
	}
	both := append(slices.Clone(l), down...)
	keeps(t, both, 1000, 1000, 0, true, down)
	keeps(t, both, count, 1000, 0, true, both)
	rising := slices.Clone(down)
	slices.Reverse(rising)
	maps(t, down, rising)
	maps(t, both, rising)

	for i, r := range down {
		one := append(slices.Clone(l), r)
		keeps(t, one, 1000, 1000, 0, true, slices.Delete(slices.Clone(one), count-1-i, count-i))
		gone := api.Record{Offset: 900, Time: 900, Key: r.Key, Dead: true}
		one = append(slices.Clone(l), gone)
		without := slices.Delete(slices.Clone(l), count-1-i, count-i)
		maps(t, one, without)
		keeps(t, one, 1000, 1000, 0, true, without)
		keeps(t, one, 1000, 1000, 100, true, append(slices.Clone(without), gone))
	}
}

// TestP1301MapOrders maps some keys in all orders: the answer is in one order.
func TestP1301MapOrders(t *testing.T) {
	want := []api.Record{{Key: "", Value: "0"}, {Key: "a", Value: "1"}, {Key: "a\xff", Value: "2"}, {Key: "aa", Value: "3"}, {Key: "é", Value: "4"}, {Key: "\xff", Value: "5"}}
	want[2], want[3] = want[3], want[2]
	var in func(l, left []api.Record)
	in = func(l, left []api.Record) {
		for i, r := range left {
			in(append(slices.Clone(l), r), slices.Delete(slices.Clone(left), i, i+1))
		}
		maps(t, l, slowMap(l))
		if len(left) == 0 {
			maps(t, l, want)
		}
	}
	in(nil, want)
}

func TestP1301Map(t *testing.T) {
	for _, x := range []struct {
		s    string
		want []int
	}{
		{"b=1 a=2", []int{20, 10}},
		{"a=1 a", nil},
		{"a a=1", []int{20}},
		{"a=1 a a=2", []int{30}},
		{"a=1 a a=2 a", nil},
		{"c=1 a=2 b=3 c a=4", []int{50, 30}},
		{"c=1 b a=2 b=3 c a=4 c=5", []int{60, 40, 70}},
		{"a= b", []int{10}},
		{"a=2 a=1 a=2", []int{30}},
	} {
		l := row(x.s)
		want := []api.Record{}
		for _, offset := range x.want {
			want = append(want, picked(l, offset)...)
		}
		maps(t, l, want)
	}
}

// TestP1301MapHeedsNoOffset gives the records of a list any Offsets and Times: the order in the list alone counts.
func TestP1301MapHeedsNoOffset(t *testing.T) {
	for _, s := range []string{"a=1 a=2", "a a=2", "a=1 a", "b=1 a=2 b=3 a", "c=1 b=2 a=3"} {
		for _, first := range numbers() {
			for _, other := range numbers() {
				l := row(s)
				for i := range l {
					l[i].Offset, l[i].Time = other, first
				}
				l[0].Offset, l[0].Time = first, other
				maps(t, l, slowMap(l))
			}
		}
	}
}

// TestP1301WholeRecords has records that are not right, and twins: each stays with all of its fields, or is gone as any other.
func TestP1301WholeRecords(t *testing.T) {
	long := strings.Repeat("v", 3000)
	l := []api.Record{
		{Offset: -3, Time: math.MinInt, Key: "", Value: "none"},
		{Offset: 5, Time: math.MaxInt, Key: "b", Value: "dead, with a value", Dead: true},
		{Offset: 5, Time: 7, Key: "c", Value: long},
		{Offset: 1 << 60, Time: 7, Key: long, Value: "\xff"},
		{Offset: 2, Time: 7, Key: "d"},
	}
	keeps(t, l, 100, math.MaxInt, 0, true, l)
	keeps(t, l, 100, math.MaxInt, -1, true, []api.Record{l[0], l[2], l[3], l[4]})
	maps(t, l, []api.Record{l[0], l[2], l[4], l[3]})

	twins := append(slices.Clone(l), l...)
	keeps(t, twins, 5, 0, 0, true, append(slices.Clone(l[1:4]), l...))
	keeps(t, twins, math.MaxInt, 0, 0, true, l)
	maps(t, twins, []api.Record{l[0], l[2], l[4], l[3]})
}

// smallRows calls with each list of up to most records of two keys, live and dead, with Offsets 1 to 3.
func smallRows(most int, call func(l []api.Record)) {
	var in func(l []api.Record)
	in = func(l []api.Record) {
		call(l)
		if len(l) == most {
			return
		}
		for k := range 12 {
			r := api.Record{Offset: 1 + k/4, Time: 3 * len(l), Key: "ab"[k%2 : k%2+1], Value: strconv.Itoa(len(l)), Dead: k/2%2 == 1}
			in(append(slices.Clone(l), r))
		}
	}
	in(nil)
}

func TestP1301AllSmallRows(t *testing.T) {
	smallRows(4, func(l []api.Record) {
		for point := range 5 {
			keepsAsSlow(t, l, point, 8, 3, true)
			keepsAsSlow(t, l, point, 10, 0, true)
			keepsAsSlow(t, l, point, 10, 0, false)
		}
		maps(t, l, slowMap(l))
	})
}

// picker picks numbers by a seed alone.
type picker struct{ x uint32 }

func (p *picker) pick(n int) int {
	p.x = p.x*1664525 + 1013904223
	return int(p.x>>16) % n
}

// number is one about 0, or one at an edge.
func (p *picker) number() int {
	if p.pick(8) == 0 {
		return numbers()[p.pick(len(numbers()))]
	}
	return p.pick(60) - 5
}

// list has up to count records of some keys; their Offsets rise, or do not.
func (p *picker) list(count int, rising bool) []api.Record {
	l := []api.Record{}
	some := 1 + p.pick(len(keys()))
	next := p.pick(5) - 2
	for i := range p.pick(count + 1) {
		r := api.Record{Offset: p.number(), Time: p.number(), Key: keys()[p.pick(some)], Value: strconv.Itoa(i), Dead: p.pick(3) == 0}
		if rising {
			r.Offset = next
			next += 1 + p.pick(3)
		}
		l = append(l, r)
	}
	return l
}

func TestP1301OfMany(t *testing.T) {
	counts := map[string]int{}
	for seed := range 20000 {
		p := &picker{x: uint32(seed)}
		l := p.list(40, p.pick(2) == 0)
		point, now, grace, dead := p.number(), p.number(), p.number(), p.pick(4) > 0
		keepsAsSlow(t, l, point, now, grace, dead)
		maps(t, l, slowMap(l))
		switch n := len(Keep(l, point, now, grace, dead)); n {
		case 0:
			counts["none"]++
		case len(l):
			counts["all"]++
		default:
			counts["some"]++
		}
	}
	for _, kind := range []string{"none", "all", "some"} {
		if counts[kind] < 100 {
			t.Errorf("Keep answered %s of the records only %d times", kind, counts[kind])
		}
	}
}

// TestP1301GreatList ends in time only if the time does not grow by the square of the list.
func TestP1301GreatList(t *testing.T) {
	const count = 300000
	var l []api.Record
	for i := range count {
		l = append(l, api.Record{Offset: i, Key: strconv.Itoa(count + i%(count/2))})
	}
	last := l[count/2:]
	// Half of the keys have both their records ahead of the second point.
	for point, want := range map[int][]api.Record{count: last, count/2 + count/4: l[count/4:]} {
		if got := Keep(l, point, 0, 0, true); !slices.Equal(got, want) {
			t.Errorf("P1301: of %d records %d stay, want %d", count, len(got), len(want))
		}
	}
	if got := Map(l); !slices.Equal(got, last) {
		t.Errorf("P1301: Map of %d records has %d, want %d", count, len(got), len(last))
	}
}

// sameMap fails if two lists are not of the same Keys and Values.
func sameMap(t *testing.T, l, got, want []api.Record) {
	t.Helper()
	same := slices.EqualFunc(got, want, func(a, b api.Record) bool { return a.Key == b.Key && a.Value == b.Value })
	if !same {
		t.Fatalf("P1302: Map of Keep of %v: %v, want %v", l, got, want)
	}
}

// TestP1302MapOfKeep cleans lists of rising Offsets: they fold to what they did.
func TestP1302MapOfKeep(t *testing.T) {
	for seed := range 1000 {
		p := &picker{x: uint32(seed)}
		l := p.list(30, true)
		want := slowMap(l)
		for point := -3; point < 65; point++ {
			now, grace := p.number(), p.number()
			sameMap(t, l, Map(Keep(l, point, now, grace, true)), want)
			sameMap(t, l, Map(Keep(l, point, now, grace, false)), want)
		}
		// Also when it is cleaned further and further, as a log is.
		kept := l
		for range 5 {
			kept = Keep(kept, p.number(), p.number(), p.number(), p.pick(3) > 0)
			sameMap(t, l, Map(kept), want)
		}
	}
	smallRows(4, func(l []api.Record) {
		for i := range l[min(1, len(l)):] {
			if l[i].Offset >= l[i+1].Offset {
				return
			}
		}
		for point := range 5 {
			sameMap(t, l, Map(Keep(l, point, 100, 0, true)), slowMap(l))
		}
	})
}

// roomy is a list of some records with others in its spare room.
func roomy() ([]api.Record, []api.Record) {
	whole := row("a=1 b=2 a c=3 b=4 d e=5 x=6 y=7 z=8")
	return whole[:7], whole
}

// TestP1302ArgumentsStay looks whether a call writes to what was handed in, or behind it.
func TestP1302ArgumentsStay(t *testing.T) {
	l, whole := roomy()
	was := slices.Clone(whole)
	for point := range 100 {
		for _, dead := range []bool{false, true} {
			got := Keep(l, point, 1000, 0, dead)
			_ = append(got, api.Record{Key: "further"})
			if !slices.Equal(whole, was) {
				t.Fatalf("P1302: Keep up to %d changed what was handed in: %v", point, whole)
			}
		}
	}
	// Keys that fall would be turned round by a sort on the spot.
	whole = row("c=1 b=2 a=3 e=4 d=5 b f=6")
	l, was = whole[:4], slices.Clone(whole)
	_ = append(Map(l), api.Record{Key: "further"})
	if !slices.Equal(whole, was) {
		t.Errorf("P1302: Map changed what was handed in: %v", whole)
	}
}

// answers are those of all calls of l, with some of them that take all of it.
func answers(l []api.Record) [][]api.Record {
	return [][]api.Record{
		Keep(l, 0, 0, 0, false), Keep(l, 0, 0, 0, true), Keep(l, 31, 0, 0, true), Keep(l, 51, 1000, 0, true), Keep(l, 1000, 0, 0, false), Keep(l, 1000, 1000, 0, true), Map(l),
	}
}

// TestP1302AnswersAreNewMemory changes all of an answer, its spare room too: nothing else changes.
func TestP1302AnswersAreNewMemory(t *testing.T) {
	for _, s := range []string{"", "a=1", "a=1 b=2 c=3", "a=1 b=2 a c=3 b=4 d e=5"} {
		l := row(s)
		want := answers(l)
		for i := range want {
			got, twice := answers(l), answers(l)
			clear(got[i][:cap(got[i])])
			if !slices.Equal(l, row(s)) {
				t.Fatalf("P1302: answer %d of %q is what was handed in", i, s)
			}
			for k := range got {
				if k != i && !slices.Equal(got[k], want[k]) || !slices.Equal(twice[k], want[k]) {
					t.Fatalf("P1302: answers %d and %d of %q share memory", i, k, s)
				}
			}
		}
		// What was answered stays when what was handed in is changed: that is not kept.
		got := answers(l)
		clear(l)
		for i := range got {
			if !slices.Equal(got[i], want[i]) {
				t.Fatalf("P1302: answer %d of %q is now %v", i, s, got[i])
			}
		}
	}
}

// TestP1302SameTwice fails if an answer hangs on anything but the arguments: calls of other lists stand between.
func TestP1302SameTwice(t *testing.T) {
	for seed := range 300 {
		p, q := &picker{x: uint32(seed)}, &picker{x: uint32(seed)}
		l, same := p.list(40, false), q.list(40, false)
		point, now, grace := p.number(), p.number(), p.number()
		kept, mapped := Keep(l, point, now, grace, true), Map(l)
		other := p.list(40, true)
		Keep(other, now, grace, point, true)
		Map(other)
		for range 3 {
			if !slices.Equal(Keep(same, point, now, grace, true), kept) || !slices.Equal(Map(same), mapped) {
				t.Fatalf("P1302: of %v another answer came", l)
			}
		}
	}
}

// TestP1302ManyAtOnce calls beside each other: the calls have nothing in common (go test -race tells more).
func TestP1302ManyAtOnce(t *testing.T) {
	l := (&picker{x: 5}).list(40, false)
	kept, mapped := slowKeep(l, 30, 20, 3, true), slowMap(l)
	wrong := make([]int, 16)
	var all sync.WaitGroup
	for i := range wrong {
		all.Go(func() {
			for range 200 {
				if !slices.Equal(Keep(l, 30, 20, 3, true), kept) || !slices.Equal(Map(l), mapped) {
					wrong[i]++
				}
			}
		})
	}
	all.Wait()
	for i, n := range wrong {
		if n > 0 {
			t.Errorf("P1302: %d of the calls beside others, number %d, answered something else", n, i)
		}
	}
}
