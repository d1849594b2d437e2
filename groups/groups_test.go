package groups

import (
	"bytes"
	"math"
	"slices"
	"sort"
	"strconv"
	"strings"
	"sync"
	"testing"
	"unsafe"

	"cooperage/api"
)

// slowTable says the chapter's sentences by a plain list of rows in the order in which they came.
type slowTable struct{ rows []Row }

// slowRight says chapter 3's sentence by the text's runes as a list.
func slowRight(name string) bool {
	runes := []rune(name)
	if string(runes) != name || len(runes) < 1 || len(runes) > 40 || strings.ContainsRune("-_.", runes[0]) {
		return false
	}
	return !slices.ContainsFunc(runes, func(r rune) bool {
		plain := strings.ContainsRune("abcdefghijklmnopqrstuvwxyz0123456789-_.", r)
		return !plain && (r < 161 || r == 173 || r == 65279 || r > 65535)
	})
}

func (s *slowTable) at(name string) int {
	return slices.IndexFunc(s.rows, func(r Row) bool { return r.Name == name })
}

func (s *slowTable) set(name string, offset int) api.Errno {
	if !slowRight(name) {
		return api.ErrName
	}
	if i := s.at(name); i >= 0 {
		s.rows[i].Offset = offset
		return api.OK
	}
	if len(s.rows)+1 > 100 {
		return api.ErrFull
	}
	s.rows = append(s.rows, Row{name, offset})
	return api.OK
}

func (s *slowTable) get(name string) (int, bool) {
	for _, r := range s.rows {
		if r.Name == name {
			return r.Offset, true
		}
	}
	return 0, false
}

func (s *slowTable) sorted() []Row {
	out := append([]Row{}, s.rows...)
	sort.Slice(out, func(i, j int) bool { return bytes.Compare([]byte(out[i].Name), []byte(out[j].Name)) < 0 })
	return out
}

// sets fails if Set does not answer e.
func sets(t *testing.T, g *Table, name string, offset int, e api.Errno) {
	t.Helper()
	if got := g.Set(name, offset); got != e {
		t.Fatalf("P1201: Set of %q, %d: %d, want %d", name, offset, got, e)
	}
}

// gets fails if name has not that offset.
func gets(t *testing.T, g *Table, name string, offset int) {
	t.Helper()
	if n, ok := g.Get(name); n != offset || !ok {
		t.Fatalf("P1201: Get of %q: %d, %v, want %d", name, n, ok, offset)
	}
}

// lacks fails if there is a row of name.
func lacks(t *testing.T, g *Table, name string) {
	t.Helper()
	if n, ok := g.Get(name); n != 0 || ok {
		t.Fatalf("P1201: Get of %q: %d, %v, want 0, false", name, n, ok)
	}
}

// has fails if these are not all rows.
func has(t *testing.T, promise string, g *Table, want ...Row) {
	t.Helper()
	if got := g.Rows(); !slices.Equal(got, want) {
		t.Fatalf("%s: Rows: %v, want %v", promise, got, want)
	}
}

// wrongNames are none of names.Valid, for one reason each.
func wrongNames() []string {
	return []string{
		"", "A", "Z", "a b", " ", "a/b", "a\x00", "a\n", "`", "{", "/", ":", "\u007f", "\u00a0", "\u00ad", "\ufeff", "a\u00ad", "😀", "a\U00010000",
		"-", "_", ".", "-a", "_a", ".a",
		"\xff", "a\xc3", "\xc3", "\xa9", "\xe6\x97", "\xed\xa0\x80", "\xc1\xa1", "a\x80b",
		strings.Repeat("a", 41), strings.Repeat("日", 41), "a" + strings.Repeat("-", 40), strings.Repeat("a", 1000),
	}
}

// rightNames are at the edges of names.Valid, by their rising bytes.
func rightNames() []string {
	return []string{
		"0", "00", "9", "9_", "a", "a-", "a--", "a-a", "a.", "a.b", "a0", "a9", "a_", "aa", strings.Repeat("a", 40), "ab", "az", "aé", "a日", "b",
		"e\u0301", "z", "zz", "z\uffff", "\u00a1", "\u00ac", "\u00ae", "é", "é-", "ééé", "ÿ", "\u0100", "\u07ff", "\u0800", "日", strings.Repeat("日", 40), "日本",
		"本", "\ud7ff", "\ue000", "\ufefe", "\uff00", "\ufffd", "\uffff", strings.Repeat("\uffff", 40),
	}
}

// numbers are offsets at the edges, and those about 0.
func numbers() []int {
	return []int{math.MinInt, math.MinInt + 1, math.MinInt32, -api.MaxTime, -100, -2, -1, 0, 1, 2, 100, 1 << 40, math.MaxUint32 + 1, math.MaxInt - 1, math.MaxInt}
}

// TestNames fails if the lists of names do not say what they should, so that the others try what they name.
func TestNames(t *testing.T) {
	for _, name := range wrongNames() {
		if slowRight(name) {
			t.Errorf("%q is right", name)
		}
	}
	for _, name := range rightNames() {
		if !slowRight(name) {
			t.Errorf("%q is wrong", name)
		}
	}
	if api.MaxName != 40 || api.MaxNames != 100 {
		t.Errorf("MaxName is %d, MaxNames is %d", api.MaxName, api.MaxNames)
	}
}

func TestP1201Example(t *testing.T) {
	var g Table
	lacks(t, &g, "a")
	has(t, "P1201", &g)
}

func TestP1201Empty(t *testing.T) {
	var zero Table
	for _, g := range []*Table{&zero, new(Table)} {
		for _, name := range append(rightNames(), wrongNames()...) {
			lacks(t, g, name)
		}
		has(t, "P1201", g)
	}
}

// TestP1201Groups plays three groups, each of which goes on, back, and stays.
func TestP1201Groups(t *testing.T) {
	var g Table
	sets(t, &g, "orders", 10, api.OK)
	has(t, "P1201", &g, Row{"orders", 10})
	gets(t, &g, "orders", 10)
	lacks(t, &g, "order")
	lacks(t, &g, "orders-1")

	sets(t, &g, "mail", 3, api.OK)
	sets(t, &g, "orders", 12, api.OK)
	sets(t, &g, "web.2", 0, api.OK)
	has(t, "P1201", &g, Row{"mail", 3}, Row{"orders", 12}, Row{"web.2", 0})
	gets(t, &g, "web.2", 0)

	sets(t, &g, "orders", 5, api.OK)
	sets(t, &g, "mail", 3, api.OK)
	sets(t, &g, "web.2", -8, api.OK)
	has(t, "P1201", &g, Row{"mail", 3}, Row{"orders", 5}, Row{"web.2", -8})
	gets(t, &g, "mail", 3)
	gets(t, &g, "orders", 5)
	gets(t, &g, "web.2", -8)
	lacks(t, &g, "web")
}

// TestP1201AnyOffset sets each number in place of each other one: none is refused, and none is cut.
func TestP1201AnyOffset(t *testing.T) {
	for _, first := range numbers() {
		var g Table
		sets(t, &g, "a", first, api.OK)
		gets(t, &g, "a", first)
		has(t, "P1201", &g, Row{"a", first})
		for _, second := range numbers() {
			sets(t, &g, "b", second, api.OK)
			sets(t, &g, "a", second, api.OK)
			gets(t, &g, "a", second)
			has(t, "P1201", &g, Row{"a", second}, Row{"b", second})
		}
	}
}

// TestP1201RightNames sets each right name alone, and finds no other one by it.
func TestP1201RightNames(t *testing.T) {
	for _, name := range rightNames() {
		var g Table
		sets(t, &g, name, 7, api.OK)
		for _, other := range append(rightNames(), wrongNames()...) {
			if other != name {
				lacks(t, &g, other)
			}
		}
		gets(t, &g, strings.Clone(name), 7)
		sets(t, &g, strings.Clone(name), 8, api.OK)
		has(t, "P1201", &g, Row{name, 8})
	}
}

// crowd answers a table of count groups, and what is in it; the names are set up and down.
func crowd(t *testing.T, count int) (*Table, *slowTable) {
	t.Helper()
	g, w := new(Table), new(slowTable)
	for i := range count {
		name := "m" + strconv.Itoa(i)
		if i%2 == 1 {
			name = "k" + strconv.Itoa(1000-i)
		}
		sets(t, g, name, i, api.OK)
		w.set(name, i)
	}
	has(t, "P1201", g, w.sorted()...)
	return g, w
}

// TestP1201WrongNames sets and asks what is no name, with room and without: nothing comes of it.
func TestP1201WrongNames(t *testing.T) {
	for _, count := range []int{0, 1, 99, 100} {
		g, w := crowd(t, count)
		for _, name := range wrongNames() {
			for _, offset := range []int{0, 1, -1} {
				sets(t, g, name, offset, api.ErrName)
				lacks(t, g, name)
				has(t, "P1201", g, w.sorted()...)
			}
		}
	}
}

// TestP1201Runes sets each rune of the first plane, and the edges of the others, alone and behind another one.
func TestP1201Runes(t *testing.T) {
	runes := []rune{65536, 65537, 0x1f600, 0x10ffff}
	for r := range rune(65536) {
		runes = append(runes, r)
	}
	for _, r := range runes {
		for _, name := range []string{string(r), "a" + string(r)} {
			var g Table
			want := api.ErrName
			// A half of a pair is no rune that string tells: it becomes 65533, which is right.
			if slowRight(name) {
				want = api.OK
			}
			sets(t, &g, name, 1, want)
			if _, ok := g.Get(name); ok != (want == api.OK) {
				t.Fatalf("P1201: Get of %q: %v", name, ok)
			}
		}
	}
}

func TestP1201MaxNames(t *testing.T) {
	g, w := crowd(t, 99)
	sets(t, g, "l", 8, api.OK)
	w.set("l", 8)
	has(t, "P1201", g, w.sorted()...)
	if n := len(g.Rows()); n != 100 {
		t.Fatalf("P1201: %d rows", n)
	}

	// There are MaxNames of them: no other one, wherever its row would stand, and whatever is set.
	for _, name := range append(rightNames(), "k", "l-", "m", "m0-", "m98-", "m980") {
		for _, offset := range []int{0, 8, -1, math.MaxInt, math.MinInt} {
			sets(t, g, name, offset, api.ErrFull)
			lacks(t, g, name)
			has(t, "P1201", g, w.sorted()...)
		}
	}
	for _, r := range w.sorted() {
		gets(t, g, r.Name, r.Offset)
	}
}

// TestP1201SetWhenFull sets each one of MaxNames groups again, with some that are refused between.
func TestP1201SetWhenFull(t *testing.T) {
	g, w := crowd(t, 100)
	for i, r := range w.sorted() {
		sets(t, g, "l", 0, api.ErrFull)
		sets(t, g, "-", 0, api.ErrName)
		sets(t, g, r.Name, -1000-i, api.OK)
		w.set(r.Name, -1000-i)
		gets(t, g, r.Name, -1000-i)
		has(t, "P1201", g, w.sorted()...)
	}
}

// TestP1201RowsRise sets all right names, in many orders; the list is in the order that is wanted.
func TestP1201RowsRise(t *testing.T) {
	all := rightNames()
	var want []Row
	for i, name := range all {
		want = append(want, Row{name, i})
	}
	count := len(all)
	for step := 1; step < count; step++ {
		for from := range count {
			// Backwards by each step, and what that does not reach behind it.
			var g Table
			for i := range count {
				k := (from + (count-i)*step) % count
				sets(t, &g, all[k], k, api.OK)
			}
			for k, name := range all {
				sets(t, &g, name, k, api.OK)
			}
			has(t, "P1201", &g, want...)
		}
	}
}

// TestP1201AllOrders sets some names, each one that is longer beginning with one that is shorter, in all orders.
func TestP1201AllOrders(t *testing.T) {
	want := []Row{{"a", 1}, {"a-", 2}, {"a-é", 3}, {"a_", 4}, {"aa", 5}, {"é", 6}}
	var in func(l, left []Row)
	in = func(l, left []Row) {
		for i, r := range left {
			in(append(slices.Clone(l), r), slices.Delete(slices.Clone(left), i, i+1))
		}
		var g Table
		w := slowTable{}
		for _, r := range l {
			sets(t, &g, r.Name, r.Offset, api.OK)
			w.set(r.Name, r.Offset)
		}
		has(t, "P1201", &g, w.sorted()...)
		for _, r := range l {
			gets(t, &g, r.Name, r.Offset)
		}
		for _, r := range left {
			lacks(t, &g, r.Name)
		}
		if len(left) == 0 {
			has(t, "P1201", &g, want...)
		}
	}
	in(nil, want)
}

// player plays a table and a slow one beside each other, by a row of numbers that hangs on the seed alone.
type player struct {
	x     uint32
	count int
	g     Table
	w     slowTable
}

func newPlayer(seed, count int) *player {
	return &player{x: uint32(seed), count: count}
}

func (p *player) pick(n int) int {
	p.x = p.x*1664525 + 1013904223
	return int(p.x>>16) % n
}

func (p *player) oneOf(l []string) string {
	return l[p.pick(len(l))]
}

func (p *player) name() string {
	switch p.pick(9) {
	case 0:
		return p.oneOf(wrongNames())
	case 1:
		return p.oneOf(rightNames())
	case 2:
		return strings.Repeat(p.oneOf([]string{"a", "é", "日"}), 1+p.pick(42))
	}
	return p.oneOf([]string{"g", "n-", "é", "日."}) + strconv.Itoa(p.pick(p.count))
}

func (p *player) offset() int {
	if p.pick(5) == 0 {
		return numbers()[p.pick(len(numbers()))]
	}
	return p.pick(2000) - 1000
}

// told is what a call told.
type told struct {
	what   string
	e      api.Errno
	offset int
	ok     bool
}

// step answers what both told.
func (p *player) step() (told, told) {
	name := p.name()
	if p.pick(2) == 0 {
		n, ok := p.g.Get(name)
		slow, slowOK := p.w.get(name)
		return told{"Get", 0, n, ok}, told{"Get", 0, slow, slowOK}
	}
	offset := p.offset()
	return told{"Set", p.g.Set(name, offset), 0, false}, told{"Set", p.w.set(name, offset), 0, false}
}

func TestP1201OfMany(t *testing.T) {
	seen := map[told]int{}
	for seed := range 150 {
		p := newPlayer(seed, 1+seed)
		for range 500 {
			got, want := p.step()
			if got != want {
				t.Fatalf("P1201: %v, want %v", got, want)
			}
			has(t, "P1201: "+got.what, &p.g, p.w.sorted()...)
			got.offset = 0
			seen[got]++
		}
	}
	for _, kind := range []told{{"Get", 0, 0, true}, {"Get", 0, 0, false}, {"Set", api.OK, 0, false}, {"Set", api.ErrName, 0, false}, {"Set", api.ErrFull, 0, false}} {
		if seen[kind] == 0 {
			t.Errorf("none of %v was tried", kind)
		}
	}
}

// filled are the rows of a table of three.
func filled() (*Table, []Row) {
	g := new(Table)
	l := []Row{{"b", 40}, {"d", 50}, {"é", 60}}
	for _, r := range l {
		g.Set(r.Name, r.Offset)
	}
	return g, l
}

func TestP1202RowsAreNewMemory(t *testing.T) {
	g, l := filled()
	for range 3 {
		one, two := g.Rows(), g.Rows()
		clear(one[:cap(one)])
		if !slices.Equal(two, l) {
			t.Fatalf("P1202: two answers share memory: %v", two)
		}
		has(t, "P1202", g, l...)
		_ = append(two[:1], Row{"x", 9}, Row{"y", 9}, Row{"z", 9})
		has(t, "P1202", g, l...)
	}

	// What was answered stays, whatever the table is told.
	was := g.Rows()
	g.Set("d", 70)
	g.Set("a", 1)
	if !slices.Equal(was, l) {
		t.Errorf("P1202: what was answered is now %v", was)
	}

	// Nor is there anything to write to behind the rows of a table that has none.
	var empty Table
	_ = append(empty.Rows(), Row{"x", 9})
	has(t, "P1202", &empty)
	sets(t, &empty, "a", 1, api.OK)
	has(t, "P1202", &empty, Row{"a", 1})
}

// TestP1202NamesAreNotKept looks whether a name that was handed in, a piece of a great text, is kept with all of that.
func TestP1202NamesAreNotKept(t *testing.T) {
	text := strings.Repeat("orders-", 1000)
	from := uintptr(unsafe.Pointer(unsafe.StringData(text)))
	var g Table
	for range 3 {
		sets(t, &g, text[:6], 1, api.OK)
		sets(t, &g, text[14:17], 2, api.OK)
		for _, r := range g.Rows() {
			at := uintptr(unsafe.Pointer(unsafe.StringData(r.Name)))
			if at >= from && at < from+uintptr(len(text)) {
				t.Fatalf("P1202: %q is a piece of what was handed in", r.Name)
			}
		}
		has(t, "P1202", &g, Row{"ord", 2}, Row{"orders", 1})
	}
}

// TestP1202GetChangesNothing asks of groups that are there and that are not.
func TestP1202GetChangesNothing(t *testing.T) {
	g, l := filled()
	for range 3 {
		for _, name := range append(append(rightNames(), wrongNames()...), "b", "c", "d", "é") {
			g.Get(name)
			has(t, "P1202", g, l...)
		}
	}
}

func TestP1202TwoTables(t *testing.T) {
	one, l := filled()
	two, _ := filled()
	one.Set("d", 90)
	one.Set("a", 1)
	has(t, "P1202", two, l...)
	gets(t, two, "d", 50)
	lacks(t, two, "a")
	gets(t, one, "d", 90)

	// One that is full leaves the other one its room.
	full, w := crowd(t, 100)
	sets(t, full, "z", 0, api.ErrFull)
	sets(t, two, "z", 0, api.OK)
	has(t, "P1202", two, Row{"b", 40}, Row{"d", 50}, Row{"z", 0}, Row{"é", 60})
	has(t, "P1202", full, w.sorted()...)
}

// TestP1202CopiedTable copies a table by an assignment: they are two.
func TestP1202CopiedTable(t *testing.T) {
	one, l := filled()
	two := *one
	one.Set("d", 90)
	one.Set("a", 1)
	has(t, "P1202", &two, l...)
	two.Set("b", 80)
	two.Set("z", 2)
	has(t, "P1202", one, Row{"a", 1}, Row{"b", 40}, Row{"d", 90}, Row{"é", 60})
	has(t, "P1202", &two, Row{"b", 80}, Row{"d", 50}, Row{"z", 2}, Row{"é", 60})
}

// TestP1202InTurns plays tables in turn: each answers as it does alone.
func TestP1202InTurns(t *testing.T) {
	var players []*player
	for seed := range 5 {
		players = append(players, newPlayer(seed, 30*seed+1))
	}
	for range 500 {
		for _, p := range players {
			if got, want := p.step(); got != want {
				t.Fatalf("P1202: %v, want %v", got, want)
			}
		}
		for _, p := range players {
			has(t, "P1202", &p.g, p.w.sorted()...)
		}
	}
	for seed, p := range players {
		alone := newPlayer(seed, 30*seed+1)
		for range 500 {
			alone.step()
		}
		has(t, "P1202", &p.g, alone.g.Rows()...)
	}
}

// TestP1202SameTwice fails if an answer hangs on anything but what the table was told.
func TestP1202SameTwice(t *testing.T) {
	for seed := range 20 {
		p, q := newPlayer(seed, 60), newPlayer(seed, 60)
		for range 300 {
			first, _ := p.step()
			if second, _ := q.step(); first != second {
				t.Fatalf("P1202: %v, then %v", first, second)
			}
			has(t, "P1202", &p.g, q.g.Rows()...)
		}
	}
}

// TestP1202ManyAtOnce plays tables beside each other: they have nothing in common (go test -race tells more).
func TestP1202ManyAtOnce(t *testing.T) {
	left := make([][]Row, 16)
	var all sync.WaitGroup
	for i := range left {
		all.Go(func() {
			var g Table
			for k := range 300 {
				g.Set("g"+strconv.Itoa(100+k%150), k+i)
				g.Get("g" + strconv.Itoa(k))
				g.Rows()
			}
			left[i] = g.Rows()
		})
	}
	all.Wait()
	for i, got := range left {
		want := make([]Row, 100)
		for k := range want {
			want[k] = Row{"g" + strconv.Itoa(100+k), 150 + k + i}
		}
		if !slices.Equal(got, want) {
			t.Errorf("P1202: table %d: %v", i, got)
		}
	}
}
