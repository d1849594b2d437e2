package dedup

import (
	"math"
	"math/big"
	"slices"
	"sort"
	"sync"
	"testing"

	"cooperage/api"
)

// slowTable says the chapter's sentences by a plain list of rows in the order in which they came, with numbers that have no end.
type slowTable struct{ rows []Row }

func (s *slowTable) at(pid int) int {
	return slices.IndexFunc(s.rows, func(r Row) bool { return r.Pid == pid })
}

// apart answers how much more a is than b.
func apart(a, b int) *big.Int {
	return new(big.Int).Sub(big.NewInt(int64(a)), big.NewInt(int64(b)))
}

func (s *slowTable) ask(pid, seq int) (int, int) {
	i := s.at(pid)
	if i < 0 {
		if seq == 0 {
			return 0, 0
		}
		return 2, 0
	}
	more := apart(seq, s.rows[i].Seq)
	if more.Cmp(big.NewInt(1)) == 0 {
		return 0, 0
	}
	if more.Sign() == 0 {
		return 1, s.rows[i].Offset
	}
	return 2, 0
}

func (s *slowTable) set(pid, seq, offset int) api.Errno {
	if i := s.at(pid); i >= 0 {
		s.rows[i] = Row{pid, seq, offset}
		return api.OK
	}
	if len(s.rows)+1 > 100 {
		return api.ErrFull
	}
	s.rows = append(s.rows, Row{pid, seq, offset})
	return api.OK
}

func (s *slowTable) sorted() []Row {
	out := append([]Row{}, s.rows...)
	sort.Slice(out, func(i, j int) bool { return out[i].Pid < out[j].Pid })
	return out
}

// asks fails if Ask does not answer these.
func asks(t *testing.T, d *Table, pid, seq, what, offset int) {
	t.Helper()
	if w, o := d.Ask(pid, seq); w != what || o != offset {
		t.Fatalf("P1101: Ask of %d, %d: %d, %d, want %d, %d", pid, seq, w, o, what, offset)
	}
}

// sets fails if Set does not answer e.
func sets(t *testing.T, d *Table, pid, seq, offset int, e api.Errno) {
	t.Helper()
	if got := d.Set(pid, seq, offset); got != e {
		t.Fatalf("P1101: Set of %d, %d, %d: %d, want %d", pid, seq, offset, got, e)
	}
}

// has fails if these are not all rows.
func has(t *testing.T, promise string, d *Table, want ...Row) {
	t.Helper()
	if got := d.Rows(); !slices.Equal(got, want) {
		t.Fatalf("%s: Rows: %v, want %v", promise, got, want)
	}
}

// edges are numbers beside which a difference may wrap, and those about 0.
func edges() []int {
	return []int{
		math.MinInt, math.MinInt + 1, math.MinInt + 2, math.MinInt / 2, math.MinInt32, -api.MaxTime,
		-2, -1, 0, 1, 2, 3, 99, 100, 101, 1 << 40, 1<<40 + 1, math.MaxInt32, math.MaxUint32, math.MaxUint32 + 1,
		math.MaxInt / 2, math.MaxInt - 2, math.MaxInt - 1, math.MaxInt,
	}
}

func TestP1101Example(t *testing.T) {
	var d Table
	asks(t, &d, 5, 1, 2, 0)
	has(t, "P1101", &d)
}

func TestP1101Empty(t *testing.T) {
	var zero Table
	made := new(Table)
	for _, d := range []*Table{&zero, made} {
		for _, pid := range edges() {
			for _, seq := range edges() {
				what := 2
				if seq == 0 {
					what = 0
				}
				asks(t, d, pid, seq, what, 0)
			}
		}
		has(t, "P1101", d)
	}
}

// TestP1101InTurns plays three producers, one of which sends some numbers again.
func TestP1101InTurns(t *testing.T) {
	var d Table
	asks(t, &d, 7, 0, 0, 0)
	sets(t, &d, 7, 0, 10, api.OK)
	has(t, "P1101", &d, Row{7, 0, 10})
	asks(t, &d, 7, 0, 1, 10)
	asks(t, &d, 7, 1, 0, 0)
	asks(t, &d, 7, 2, 2, 0)
	asks(t, &d, 7, -1, 2, 0)

	sets(t, &d, 7, 1, 11, api.OK)
	asks(t, &d, 7, 0, 2, 0)
	asks(t, &d, 7, 1, 1, 11)
	asks(t, &d, 7, 2, 0, 0)
	asks(t, &d, 7, 3, 2, 0)

	// What one producer sent is nothing to the others.
	asks(t, &d, 3, 0, 0, 0)
	asks(t, &d, 3, 1, 2, 0)
	asks(t, &d, 3, 2, 2, 0)
	sets(t, &d, 3, 0, 12, api.OK)
	sets(t, &d, 9, 0, 13, api.OK)
	sets(t, &d, 3, 1, 14, api.OK)
	sets(t, &d, 3, 2, 15, api.OK)
	asks(t, &d, 3, 2, 1, 15)
	asks(t, &d, 7, 1, 1, 11)
	asks(t, &d, 7, 2, 0, 0)
	asks(t, &d, 9, 0, 1, 13)
	asks(t, &d, 9, 2, 2, 0)
	asks(t, &d, 8, 0, 0, 0)
	has(t, "P1101", &d, Row{3, 2, 15}, Row{7, 1, 11}, Row{9, 0, 13})
}

// TestP1101Seqs holds each Seq against each number that may be asked: none may wrap.
func TestP1101Seqs(t *testing.T) {
	for _, seq := range edges() {
		var d Table
		w := slowTable{}
		sets(t, &d, 5, seq, 77, w.set(5, seq, 77))
		for _, asked := range edges() {
			what, offset := w.ask(5, asked)
			asks(t, &d, 5, asked, what, offset)
		}
		asks(t, &d, 5, seq, 1, 77)
		has(t, "P1101", &d, Row{5, seq, 77})
	}
}

// TestP1101Ends asks at the ends of the ints, number by number.
func TestP1101Ends(t *testing.T) {
	var d Table
	sets(t, &d, 1, math.MaxInt, 4, api.OK)
	asks(t, &d, 1, math.MaxInt, 1, 4)
	asks(t, &d, 1, math.MinInt, 2, 0) // one more, if it were to wrap
	asks(t, &d, 1, math.MaxInt-1, 2, 0)
	asks(t, &d, 1, 0, 2, 0)
	sets(t, &d, 1, math.MaxInt-1, 5, api.OK)
	asks(t, &d, 1, math.MaxInt, 0, 0)
	asks(t, &d, 1, math.MaxInt-2, 2, 0)
	asks(t, &d, 1, math.MinInt, 2, 0) // two more, if it were to wrap
	sets(t, &d, 1, math.MinInt, 6, api.OK)
	asks(t, &d, 1, math.MinInt, 1, 6)
	asks(t, &d, 1, math.MinInt+1, 0, 0)
	asks(t, &d, 1, math.MinInt+2, 2, 0)
	asks(t, &d, 1, math.MaxInt, 2, 0) // one less, if it were to wrap
	has(t, "P1101", &d, Row{1, math.MinInt, 6})
}

// TestP1101AnyNumbers sets each edge in each place: nothing is refused, and nothing is cut.
func TestP1101AnyNumbers(t *testing.T) {
	for _, n := range edges() {
		for place := range 3 {
			r := Row{5, 6, 7}
			*[]*int{&r.Pid, &r.Seq, &r.Offset}[place] = n
			var d Table
			sets(t, &d, r.Pid, r.Seq, r.Offset, api.OK)
			has(t, "P1101", &d, r)
			asks(t, &d, r.Pid, r.Seq, 1, r.Offset)
		}
	}
}

// TestP1101OutOfTurn sets what Ask calls out of turn, and what it calls sent.
func TestP1101OutOfTurn(t *testing.T) {
	var d Table
	asks(t, &d, 5, 9, 2, 0)
	sets(t, &d, 5, 9, 1, api.OK)
	has(t, "P1101", &d, Row{5, 9, 1})
	asks(t, &d, 5, 10, 0, 0)

	asks(t, &d, 5, 30, 2, 0)
	sets(t, &d, 5, 30, 2, api.OK)
	has(t, "P1101", &d, Row{5, 30, 2})

	asks(t, &d, 5, 3, 2, 0)
	sets(t, &d, 5, 3, 3, api.OK)
	has(t, "P1101", &d, Row{5, 3, 3})
	asks(t, &d, 5, 4, 0, 0)
	asks(t, &d, 5, 30, 2, 0)

	asks(t, &d, 5, 3, 1, 3)
	sets(t, &d, 5, 3, -4, api.OK)
	has(t, "P1101", &d, Row{5, 3, -4})
	asks(t, &d, 5, 3, 1, -4)

	// Where a row is, 0 has no place of its own.
	asks(t, &d, 5, 0, 2, 0)
	sets(t, &d, 5, -1, 5, api.OK)
	asks(t, &d, 5, 0, 0, 0)
	sets(t, &d, 5, 0, 0, api.OK)
	asks(t, &d, 5, 0, 1, 0)
	has(t, "P1101", &d, Row{5, 0, 0})
}

// full answers a table of count producers, and what is in it; the Pids go up and down, none of them 5.
func full(t *testing.T, count int) (*Table, *slowTable) {
	t.Helper()
	d, w := new(Table), new(slowTable)
	for i := range count {
		pid := 10 + 2*i
		if i%2 == 1 {
			pid = -pid
		}
		sets(t, d, pid, i, 1000+i, api.OK)
		w.set(pid, i, 1000+i)
	}
	has(t, "P1101", d, w.sorted()...)
	return d, w
}

func TestP1101MaxPids(t *testing.T) {
	if api.MaxPids != 100 {
		t.Fatalf("MaxPids is %d", api.MaxPids)
	}
	d, w := full(t, 99)
	sets(t, d, 5, 3, 8, api.OK)
	w.set(5, 3, 8)
	has(t, "P1101", d, w.sorted()...)
	if n := len(d.Rows()); n != 100 {
		t.Fatalf("P1101: %d rows", n)
	}

	// There are MaxPids of them: no other one, wherever its row would stand, and whatever is set.
	for _, pid := range []int{math.MinInt, -300, -11, 0, 4, 6, 11, 300, math.MaxInt} {
		for _, seq := range []int{0, 1, -1, math.MaxInt, math.MinInt} {
			sets(t, d, pid, seq, 9, api.ErrFull)
			has(t, "P1101", d, w.sorted()...)
		}
		asks(t, d, pid, 0, 0, 0)
		asks(t, d, pid, 1, 2, 0)
	}
	for _, r := range w.sorted() {
		asks(t, d, r.Pid, r.Seq, 1, r.Offset)
		asks(t, d, r.Pid, r.Seq+1, 0, 0)
	}
}

// TestP1101SetWhenFull sets each one of MaxPids producers again, in turn and not, with some that are refused between.
func TestP1101SetWhenFull(t *testing.T) {
	d, w := full(t, 100)
	for i, r := range w.sorted() {
		sets(t, d, 5, 0, 0, api.ErrFull)
		sets(t, d, r.Pid, r.Seq+1, -r.Offset, api.OK)
		w.set(r.Pid, r.Seq+1, -r.Offset)
		if i%3 == 0 {
			sets(t, d, r.Pid, -r.Seq-50, 0, api.OK)
			w.set(r.Pid, -r.Seq-50, 0)
		}
		has(t, "P1101", d, w.sorted()...)
	}
}

// TestP1101RowsRise sets some producers in all orders.
func TestP1101RowsRise(t *testing.T) {
	want := []Row{{math.MinInt, 1, -1}, {-3, 2, -2}, {0, 3, -3}, {1, 4, -4}, {2, 5, -5}, {math.MaxInt, 6, -6}}
	var in func(l, left []Row)
	in = func(l, left []Row) {
		if len(left) > 0 {
			for i, r := range left {
				in(append(slices.Clone(l), r), slices.Delete(slices.Clone(left), i, i+1))
			}
			return
		}
		var d Table
		for _, r := range l {
			sets(t, &d, r.Pid, r.Seq, r.Offset, api.OK)
		}
		has(t, "P1101", &d, want...)
		for _, r := range want {
			asks(t, &d, r.Pid, r.Seq, 1, r.Offset)
		}
	}
	in(nil, want)
}

// TestP1101ManyRise sets MaxPids producers in many orders.
func TestP1101ManyRise(t *testing.T) {
	// Each step has no divisor but 1 in common with 100, so that all are reached.
	for _, step := range []int{1, 3, 7, 9, 11, 33, 49, 51, 67, 89, 99} {
		var d Table
		w := slowTable{}
		for i := range 100 {
			pid := i*step%100 - 50
			sets(t, &d, pid, i, step, w.set(pid, i, step))
			has(t, "P1101", &d, w.sorted()...)
		}
		sets(t, &d, 50, 0, 0, api.ErrFull)
	}
}

// player plays a table and a slow one beside each other, by a row of numbers that hangs on the seed alone.
type player struct {
	x    uint32
	pids int
	d    Table
	w    slowTable
}

func newPlayer(seed, pids int) *player {
	return &player{x: uint32(seed), pids: pids}
}

func (p *player) pick(n int) int {
	p.x = p.x*1664525 + 1013904223
	return int(p.x>>16) % n
}

func (p *player) pid() int {
	if p.pick(9) == 0 {
		return edges()[p.pick(len(edges()))]
	}
	return p.pick(p.pids) - p.pids/2
}

// seq answers a number near to the one that pid's row has, most often.
func (p *player) seq(pid int) int {
	if p.pick(9) == 0 {
		return edges()[p.pick(len(edges()))]
	}
	near := p.pick(5) - 2
	if i := p.w.at(pid); i >= 0 {
		return p.w.rows[i].Seq + near
	}
	return near
}

// told is what a call told.
type told struct {
	what   string
	answer int
	offset int
}

// step answers what both told.
func (p *player) step() (told, told) {
	pid := p.pid()
	seq := p.seq(pid)
	if p.pick(2) == 0 {
		what, offset := p.d.Ask(pid, seq)
		slowWhat, slowOffset := p.w.ask(pid, seq)
		return told{"Ask", what, offset}, told{"Ask", slowWhat, slowOffset}
	}
	offset := p.pick(2000) - 1000
	return told{"Set", int(p.d.Set(pid, seq, offset)), 0}, told{"Set", int(p.w.set(pid, seq, offset)), 0}
}

func TestP1101OfMany(t *testing.T) {
	seen := map[told]int{}
	for seed := range 200 {
		p := newPlayer(seed, 1+seed)
		for range 500 {
			got, want := p.step()
			if got != want {
				t.Fatalf("P1101: %v, want %v", got, want)
			}
			has(t, "P1101: "+got.what, &p.d, p.w.sorted()...)
			got.offset = 0
			seen[got]++
		}
	}
	for _, kind := range []told{{"Ask", 0, 0}, {"Ask", 1, 0}, {"Ask", 2, 0}, {"Set", int(api.OK), 0}, {"Set", int(api.ErrFull), 0}} {
		if seen[kind] == 0 {
			t.Errorf("none of %v was tried", kind)
		}
	}
}

// filled are the rows of a table of three.
func filled() (*Table, []Row) {
	d := new(Table)
	l := []Row{{-1, 4, 40}, {2, 5, 50}, {3, 6, 60}}
	for _, r := range l {
		d.Set(r.Pid, r.Seq, r.Offset)
	}
	return d, l
}

func TestP1102RowsAreNewMemory(t *testing.T) {
	d, l := filled()
	for range 3 {
		one, two := d.Rows(), d.Rows()
		clear(one[:cap(one)])
		if !slices.Equal(two, l) {
			t.Fatalf("P1102: two answers share memory: %v", two)
		}
		has(t, "P1102", d, l...)
		_ = append(two[:1], Row{9, 9, 9}, Row{9, 9, 9}, Row{9, 9, 9})
		has(t, "P1102", d, l...)
	}

	// What was answered stays, whatever the table is told.
	was := d.Rows()
	d.Set(2, 7, 70)
	d.Set(0, 0, 0)
	if !slices.Equal(was, l) {
		t.Errorf("P1102: what was answered is now %v", was)
	}

	// Nor is there anything to write to behind the rows of a table that has none.
	var empty Table
	none := empty.Rows()
	_ = append(none, Row{9, 9, 9})
	has(t, "P1102", &empty)
	sets(t, &empty, 1, 1, 1, api.OK)
	has(t, "P1102", &empty, Row{1, 1, 1})
}

// TestP1102AskChangesNothing asks of producers that are there and that are not.
func TestP1102AskChangesNothing(t *testing.T) {
	d, l := filled()
	for range 3 {
		for _, pid := range append(edges(), -1, 2, 3) {
			for seq := range 9 {
				d.Ask(pid, seq)
				has(t, "P1102", d, l...)
			}
		}
	}
}

func TestP1102TwoTables(t *testing.T) {
	one, l := filled()
	two, _ := filled()
	one.Set(2, 9, 90)
	one.Set(0, 0, 1)
	has(t, "P1102", two, l...)
	asks(t, two, 2, 9, 2, 0)
	asks(t, two, 2, 5, 1, 50)
	asks(t, two, 0, 0, 0, 0)
	asks(t, one, 2, 9, 1, 90)

	// One that is full leaves the other one its room.
	crowd, w := full(t, 100)
	sets(t, crowd, 5, 0, 0, api.ErrFull)
	sets(t, two, 5, 0, 0, api.OK)
	has(t, "P1102", two, Row{-1, 4, 40}, Row{2, 5, 50}, Row{3, 6, 60}, Row{5, 0, 0})
	has(t, "P1102", crowd, w.sorted()...)
}

// TestP1102CopiedTable copies a table by an assignment: they are two.
func TestP1102CopiedTable(t *testing.T) {
	one, l := filled()
	two := *one
	one.Set(2, 9, 90)
	one.Set(0, 0, 1)
	has(t, "P1102", &two, l...)
	two.Set(-1, 8, 80)
	two.Set(4, 0, 2)
	has(t, "P1102", one, Row{-1, 4, 40}, Row{0, 0, 1}, Row{2, 9, 90}, Row{3, 6, 60})
	has(t, "P1102", &two, Row{-1, 8, 80}, Row{2, 5, 50}, Row{3, 6, 60}, Row{4, 0, 2})
}

// TestP1102InTurns plays tables in turn: each answers as it does alone.
func TestP1102InTurns(t *testing.T) {
	var players []*player
	for seed := range 5 {
		players = append(players, newPlayer(seed, 30*seed+1))
	}
	for range 600 {
		for _, p := range players {
			if got, want := p.step(); got != want {
				t.Fatalf("P1102: %v, want %v", got, want)
			}
		}
		for _, p := range players {
			has(t, "P1102", &p.d, p.w.sorted()...)
		}
	}
	for seed, p := range players {
		alone := newPlayer(seed, 30*seed+1)
		for range 600 {
			alone.step()
		}
		has(t, "P1102", &p.d, alone.d.Rows()...)
	}
}

// TestP1102SameTwice fails if an answer hangs on anything but what the table was told.
func TestP1102SameTwice(t *testing.T) {
	for seed := range 20 {
		p, q := newPlayer(seed, 110), newPlayer(seed, 110)
		for range 300 {
			first, _ := p.step()
			if second, _ := q.step(); first != second {
				t.Fatalf("P1102: %v, then %v", first, second)
			}
			has(t, "P1102", &p.d, q.d.Rows()...)
		}
	}
}

// TestP1102ManyAtOnce plays tables beside each other: they have nothing in common (go test -race tells more).
func TestP1102ManyAtOnce(t *testing.T) {
	left := make([][]Row, 16)
	var all sync.WaitGroup
	for i := range left {
		all.Go(func() {
			var d Table
			for k := range 300 {
				d.Set(k%150, k, i)
				d.Ask(k%7, k)
				d.Rows()
			}
			left[i] = d.Rows()
		})
	}
	all.Wait()
	for i, got := range left {
		want := make([]Row, 100)
		for pid := range want {
			want[pid] = Row{pid, 150 + pid, i}
		}
		if !slices.Equal(got, want) {
			t.Errorf("P1102: table %d: %v", i, got)
		}
	}
}
