package index

import (
	"bytes"
	"math"
	"slices"
	"strings"
	"sync"
	"testing"

	"cooperage/api"
	"cooperage/record"
	"cooperage/segment"
)

const (
	topOffset = 1125899906842624 // 2^50
	topTime   = 1099511627776    // 2^40
	none      = -1099511627777   // -2^40 - 1: what a Mark tells if no record stands ahead
)

func text(n int) string { return strings.Repeat("t", n) }

// timed are records with these Times, at rising Offsets with gaps, of many sizes.
func timed(times ...int) []api.Record {
	l := []api.Record{}
	for i, time := range times {
		r := api.Record{Offset: i * (i + 3), Time: time, Key: text(1 + 37*i%200), Value: text(i * i * 29 % 2000)}
		if i%4 == 3 {
			r.Value, r.Dead = "", true
		}
		l = append(l, r)
	}
	return l
}

// placed are records with these Offsets, the later one's Time the greater.
func placed(offsets ...int) []api.Record {
	l := []api.Record{}
	for i, offset := range offsets {
		l = append(l, api.Record{Offset: offset, Time: i, Key: "key", Value: text(60 * i)})
	}
	return l
}

// rows are lists of right records by rising Offsets: Times that rise, stand still and fall, the least and the greatest.
func rows() [][]api.Record {
	return [][]api.Record{
		nil,
		{},
		timed(0),
		timed(-topTime),
		timed(topTime),
		timed(1, 2, 3, 4, 5),
		timed(5, 4, 3, 2, 1),
		timed(7, 7, 7, 7),
		timed(-3, -1, -2, -9, 0, -1),
		timed(5, 3, 9, 9, 1, 20, 0),
		timed(0, -topTime, topTime, 0),
		timed(-topTime, -topTime, -topTime+1, topTime-1, topTime, topTime, 3),
		timed(3, topTime, -topTime, topTime, 8, 8, 9, 8, 7, 100, 99, 101),
		placed(0, 1, 2, 3, 4, 5, 6, 7),
		placed(topOffset),
		placed(4, 127, 128, 1<<31, topOffset-1, topOffset),
	}
}

// wrong are records that are not right; what a Mark could tell of them is far off, where it can be.
func wrong() []api.Record {
	return []api.Record{
		{},
		{Offset: 3, Time: topTime, Value: "v"},
		{Offset: 3, Time: topTime, Dead: true},
		{Offset: 3, Time: topTime, Key: text(201)},
		{Offset: 3, Time: topTime, Key: "a", Value: text(2001)},
		{Offset: 3, Time: topTime, Key: "a", Value: "v", Dead: true},
		{Offset: 3, Time: topTime + 1, Key: "a"},
		{Offset: 3, Time: -topTime - 1, Key: "a"},
		{Offset: 3, Time: math.MaxInt, Key: "a"},
		{Offset: 3, Time: math.MinInt, Key: "a"},
		{Offset: -1, Time: topTime, Key: "a"},
		{Offset: math.MinInt, Time: topTime, Key: "a"},
		{Offset: topOffset + 1, Time: topTime, Key: "a"},
		{Offset: math.MaxInt, Time: topTime, Key: "a"},
	}
}

// mixes are l with records that are not right at the front, in the middle and at the end.
func mixes(l []api.Record) [][]api.Record {
	out := [][]api.Record{}
	for _, r := range wrong() {
		for _, at := range []int{0, len(l) / 2, len(l)} {
			out = append(out, slices.Insert(slices.Clone(l), at, r))
		}
	}
	each := wrong()
	for _, r := range l {
		each = append(append(each, r), wrong()...)
	}
	return append(out, each, slices.Concat(wrong(), l), slices.Concat(l, wrong()))
}

// everies are numbers at the edges of a list of n records.
func everies(n int) []int {
	return []int{math.MinInt, math.MinInt + 1, -4, -1, 0, 1, 2, 3, 4, n - 1, n, n + 1, 1000, 1 << 32, math.MaxInt - 1, math.MaxInt}
}

// slowMake says P901's sentence of Make: it cuts the right records into pieces, and marks the first one of each.
func slowMake(l []api.Record, every int) []Mark {
	right := slices.DeleteFunc(slices.Clone(l), func(r api.Record) bool { return !record.Right(r) })
	ix, at := []Mark{}, 0
	for piece := range slices.Chunk(right, max(every, 1)) {
		time := none
		for _, r := range right[:at] {
			time = max(time, r.Time)
		}
		ix = append(ix, Mark{Offset: piece[0].Offset, Time: time, Pos: len(segment.Bytes(right[:at]))})
		at += len(piece)
	}
	return ix
}

// slowSeek says P901's sentences of Seek and SeekTime: the last one of those that are wanted.
func slowSeek(ix []Mark, wanted func(Mark) bool) int {
	kept := slices.DeleteFunc(slices.Clone(ix), func(m Mark) bool { return !wanted(m) })
	if len(kept) == 0 {
		return 0
	}
	return kept[len(kept)-1].Pos
}

// slowFirst is the first record of l that is wanted.
func slowFirst(l []api.Record, wanted func(api.Record) bool) (api.Record, bool) {
	if i := slices.IndexFunc(l, wanted); i >= 0 {
		return l[i], true
	}
	return api.Record{}, false
}

// checkFinds fails if Find of offset n, or FindTime of time n, is not the first such record of what Scan has from there on.
func checkFinds(t *testing.T, b []byte, ix []Mark, n int) {
	t.Helper()
	from := func(pos int) []api.Record {
		if pos < 0 || pos > len(b) {
			pos = 0
		}
		l, _ := segment.Scan(b[pos:])
		return l
	}
	want, there := slowFirst(from(Seek(ix, n)), func(r api.Record) bool { return r.Offset >= n })
	if r, ok := Find(b, ix, n); r != want || ok != there {
		t.Fatalf("P902: Find in %.60q by %v, offset %d: %v, %v, want %v, %v", b, ix, n, r, ok, want, there)
	}
	want, there = slowFirst(from(SeekTime(ix, n)), func(r api.Record) bool { return r.Time >= n })
	if r, ok := FindTime(b, ix, n); r != want || ok != there {
		t.Fatalf("P902: FindTime in %.60q by %v, time %d: %v, %v, want %v, %v", b, ix, n, r, ok, want, there)
	}
}

// checkFind fails if Find is not that record; nil: there is none.
func checkFind(t *testing.T, b []byte, ix []Mark, offset int, want *api.Record) {
	t.Helper()
	r, ok := Find(b, ix, offset)
	if ok != (want != nil) || ok && r != *want || !ok && r != (api.Record{}) {
		t.Errorf("P902: Find in %d bytes by %v, offset %d: %v, %v, want %v", len(b), ix, offset, r, ok, want)
	}
}

// checkFindTime fails if FindTime is not that record; nil: there is none.
func checkFindTime(t *testing.T, b []byte, ix []Mark, time int, want *api.Record) {
	t.Helper()
	r, ok := FindTime(b, ix, time)
	if ok != (want != nil) || ok && r != *want || !ok && r != (api.Record{}) {
		t.Errorf("P902: FindTime in %d bytes by %v, time %d: %v, %v, want %v", len(b), ix, time, r, ok, want)
	}
}

// checkWhole fails if Find of offset n, or FindTime of time n, is not the first such record of the whole list l.
func checkWhole(t *testing.T, b []byte, ix []Mark, l []api.Record, n int) {
	t.Helper()
	want, there := slowFirst(l, func(r api.Record) bool { return r.Offset >= n })
	if r, ok := Find(b, ix, n); r != want || ok != there {
		t.Errorf("P903: Find of %d records by %v, offset %d: %v, %v, want %v, %v", len(l), ix, n, r, ok, want, there)
	}
	want, there = slowFirst(l, func(r api.Record) bool { return r.Time >= n })
	if r, ok := FindTime(b, ix, n); r != want || ok != there {
		t.Errorf("P903: FindTime of %d records by %v, time %d: %v, %v, want %v, %v", len(l), ix, n, r, ok, want, there)
	}
}

// at is one Mark to which every number leads, but for the least int as a time.
func at(pos int) []Mark { return []Mark{{Offset: math.MinInt, Time: math.MinInt, Pos: pos}} }

// places are the Offsets and Times of l and those beside them, and the edges of all ints.
func places(l []api.Record) []int {
	out := []int{math.MinInt, math.MinInt + 1, none - 1, none, none + 1, -1, 0, 1, topTime, topTime + 1, topOffset, topOffset + 1, math.MaxInt - 1, math.MaxInt}
	for _, r := range l {
		out = append(out, r.Offset-1, r.Offset, r.Offset+1, r.Time-1, r.Time, r.Time+1)
	}
	return out
}

func TestP901MakeWritten(t *testing.T) {
	// Frames of 11, 12 and 13 bytes, of 262, whose length has 2 bytes, and of 12 again.
	l := []api.Record{{Key: "a", Time: 4}, {Offset: 1, Time: 9, Key: "ab"}, {Offset: 5, Time: 9, Key: "a", Value: "vw"}, {Offset: 6, Time: -5, Key: text(50), Value: text(200)}, {Offset: 127, Time: 3, Key: "k", Value: "v"}, {Offset: 128, Key: "k"}}
	for _, c := range []struct {
		l     []api.Record
		every int
		want  []Mark
	}{
		{nil, 3, nil},
		{[]api.Record{}, 0, nil},
		{wrong(), 1, nil},
		{[]api.Record{{Key: "a"}}, 1, []Mark{{0, none, 0}}},
		{[]api.Record{{Offset: topOffset, Time: topTime, Key: "a"}}, 5, []Mark{{topOffset, none, 0}}},
		{l, 1, []Mark{{0, none, 0}, {1, 4, 11}, {5, 9, 23}, {6, 9, 36}, {127, 9, 298}, {128, 9, 310}}},
		{l, 2, []Mark{{0, none, 0}, {5, 9, 23}, {127, 9, 298}}},
		{l, 3, []Mark{{0, none, 0}, {6, 9, 36}}},
		{l, 5, []Mark{{0, none, 0}, {128, 9, 310}}},
		{l, 6, []Mark{{0, none, 0}}},
		{l[3:], 1, []Mark{{6, none, 0}, {127, -5, 262}, {128, 3, 274}}},
	} {
		if got := Make(c.l, c.every); !slices.Equal(got, c.want) {
			t.Errorf("P901: Make %v, %d: %v, want %v", c.l, c.every, got, c.want)
		}
	}
}

func TestP901Make(t *testing.T) {
	for _, l := range rows() {
		for _, every := range everies(len(l)) {
			if got, want := Make(l, every), slowMake(l, every); !slices.Equal(got, want) {
				t.Errorf("P901: Make of %d records, every %d: %v, want %v", len(l), every, got, want)
			}
		}
	}
}

// TestP901MakeBelowOne fails if a number below 1 is another one than 1.
func TestP901MakeBelowOne(t *testing.T) {
	for _, l := range rows() {
		for _, every := range []int{0, -1, -2, -len(l), math.MinInt} {
			if got := Make(l, every); len(got) != len(l) || !slices.Equal(got, Make(l, 1)) {
				t.Errorf("P901: Make of %d records, every %d: %v", len(l), every, got)
			}
		}
	}
}

// TestP901MakeLeavesOutNotRight fails if a record that is not right is marked, counted, or has a place or a Time.
func TestP901MakeLeavesOutNotRight(t *testing.T) {
	for _, l := range rows() {
		for _, every := range everies(len(l)) {
			want := slowMake(l, every)
			for _, mixed := range mixes(l) {
				if got := Make(mixed, every); !slices.Equal(got, want) {
					t.Fatalf("P901: Make of %d records and %d that are not right, every %d: %v, want %v", len(l), len(mixed)-len(l), every, got, want)
				}
			}
		}
	}
}

// TestP901MakeInAnyRow fails if Make asks for more than that a record is right.
func TestP901MakeInAnyRow(t *testing.T) {
	back := timed(5, 3, 9, 9, 1, 20, 0)
	slices.Reverse(back)
	for _, l := range [][]api.Record{back, placed(3, 3, 3), placed(3, 2, 1, 0), placed(5, 1, 6, 0, 6, topOffset, 0)} {
		for _, every := range everies(len(l)) {
			if got, want := Make(l, every), slowMake(l, every); !slices.Equal(got, want) {
				t.Errorf("P901: Make of %v, every %d: %v, want %v", l, every, got, want)
			}
		}
	}
}

// TestP901LongRow holds of many records; it would not end soon if all that stands ahead were written, or gone through, for each Mark.
func TestP901LongRow(t *testing.T) {
	l, want, pos := []api.Record{}, []Mark{}, 0
	for n := range 100000 {
		// Of four Times the first one is the greatest, and greater than all of those ahead.
		r := api.Record{Offset: 3 * n, Time: n - 2*(n%4), Key: "key", Value: "value"}
		if n%4 == 0 {
			want = append(want, Mark{Offset: 3 * n, Time: n - 4, Pos: pos})
		}
		pos += len(segment.Bytes([]api.Record{r}))
		l = append(l, r)
	}
	want[0].Time = none
	ix, b := Make(l, 4), segment.Bytes(l)
	if !slices.Equal(ix, want) || len(b) != pos {
		t.Fatalf("P901: Make of %d records: %d Marks, want %d", len(l), len(ix), len(want))
	}
	for _, n := range []int{0, 1, 3, 4, 50001, 99998, 99999} {
		want, there := slowFirst(l, func(r api.Record) bool { return r.Time >= l[n].Time })
		if r, ok := Find(b, ix, l[n].Offset); !ok || r != l[n] {
			t.Errorf("P903: Find of %d records, offset %d: %v, %v", len(l), l[n].Offset, r, ok)
		}
		if r, ok := FindTime(b, ix, l[n].Time); !ok || r != want || !there {
			t.Errorf("P903: FindTime of %d records, time %d: %v, %v, want %v", len(l), l[n].Time, r, ok, want)
		}
	}
}

func TestP901SeekWritten(t *testing.T) {
	rising := []Mark{{5, -7, 50}, {9, 0, 90}, {12, 0, 120}, {300, 4, 777}}
	mixed := []Mark{{5, 1, 50}, {9, 7, 90}, {7, 3, 70}}
	falling := []Mark{{9, 9, 1}, {6, 6, 2}, {3, 3, 3}}
	edge := []Mark{{math.MinInt, math.MinInt, -1}, {math.MaxInt, math.MaxInt, math.MaxInt}}
	for _, c := range []struct {
		ix         []Mark
		n          int
		seek, time int
	}{
		{nil, 0, 0, 0},
		{[]Mark{}, math.MaxInt, 0, 0},
		{nil, math.MinInt, 0, 0},
		{rising, math.MinInt, 0, 0},
		{rising, -8, 0, 0},
		{rising, -7, 0, 0},
		{rising, -6, 0, 50},
		{rising, 0, 0, 50},
		{rising, 1, 0, 120},
		{rising, 4, 0, 120},
		{rising, 5, 50, 777},
		{rising, 6, 50, 777},
		{rising, 8, 50, 777},
		{rising, 9, 90, 777},
		{rising, 11, 90, 777},
		{rising, 12, 120, 777},
		{rising, 299, 120, 777},
		{rising, 300, 777, 777},
		{rising, 301, 777, 777},
		{rising, math.MaxInt, 777, 777},
		{mixed, 1, 0, 0},
		{mixed, 2, 0, 50},
		{mixed, 3, 0, 50},
		{mixed, 4, 0, 70},
		{mixed, 5, 50, 70},
		{mixed, 7, 70, 70},
		{mixed, 8, 70, 70},
		{mixed, 9, 70, 70},
		{mixed[:2], 7, 50, 50},
		{mixed[:2], 8, 50, 90},
		{mixed[:2], 9, 90, 90},
		{falling, 2, 0, 0},
		{falling, 3, 3, 0},
		{falling, 4, 3, 3},
		{falling, 100, 3, 3},
		{edge, math.MinInt, -1, 0},
		{edge, math.MinInt + 1, -1, -1},
		{edge, 0, -1, -1},
		{edge, math.MaxInt - 1, -1, -1},
		{edge, math.MaxInt, math.MaxInt, -1},
	} {
		if got := Seek(c.ix, c.n); got != c.seek {
			t.Errorf("P901: Seek %v, %d: %d, want %d", c.ix, c.n, got, c.seek)
		}
		if got := SeekTime(c.ix, c.n); got != c.time {
			t.Errorf("P901: SeekTime %v, %d: %d, want %d", c.ix, c.n, got, c.time)
		}
	}
}

// TestP901SeekOfMany seeks in all rows of up to 4 Marks that rise, stand still and fall.
func TestP901SeekOfMany(t *testing.T) {
	for size := range 5 {
		for row := range 1 << (4 * size) {
			ix := []Mark{}
			for i := range size {
				kind := row >> (4 * i)
				ix = append(ix, Mark{Offset: kind%4 - 1, Time: kind/4%4 - 1, Pos: i*10 - 5})
			}
			for n := -2; n < 5; n++ {
				if got, want := Seek(ix, n), slowSeek(ix, func(m Mark) bool { return m.Offset <= n }); got != want {
					t.Fatalf("P901: Seek %v, %d: %d, want %d", ix, n, got, want)
				}
				if got, want := SeekTime(ix, n), slowSeek(ix, func(m Mark) bool { return m.Time < n }); got != want {
					t.Fatalf("P901: SeekTime %v, %d: %d, want %d", ix, n, got, want)
				}
			}
		}
	}
}

// TestP902FromThePlaceOn fails if a record ahead of the place is told, though it would be the first one.
func TestP902FromThePlaceOn(t *testing.T) {
	l := timed(5, 3, 9, 9, 1, 20, 0)
	b := segment.Bytes(l)
	for i := range l {
		pos := len(segment.Bytes(l[:i]))
		checkFind(t, b, at(pos), math.MinInt, &l[i])
		checkFind(t, b, at(pos), 0, &l[i])
		checkFind(t, b, at(pos), l[i].Offset, &l[i])
		checkFindTime(t, b, at(pos), -topTime, &l[i])
		checkFindTime(t, b, at(pos), l[i].Time, &l[i])
		if i+1 < len(l) {
			checkFind(t, b, at(pos), l[i].Offset+1, &l[i+1])
		}
	}
	checkFind(t, b, at(0), l[6].Offset, &l[6])
	checkFind(t, b, at(0), l[6].Offset+1, nil)
	checkFind(t, b, nil, math.MaxInt, nil)
	checkFindTime(t, b, at(0), 6, &l[2])
	checkFindTime(t, b, at(0), 20, &l[5])
	checkFindTime(t, b, at(0), 21, nil)
	checkFindTime(t, b, nil, math.MaxInt, nil)
}

// TestP902EachByItsOwnMarks fails if Find goes by Times, or FindTime by Offsets.
func TestP902EachByItsOwnMarks(t *testing.T) {
	l := timed(5, 3, 9, 9, 1, 20, 0)
	b := segment.Bytes(l)
	second, last := len(segment.Bytes(l[:1])), len(segment.Bytes(l[:6]))
	ix := []Mark{{Offset: 0, Time: 100, Pos: second}, {Offset: 1000, Time: 0, Pos: last}}
	checkFind(t, b, ix, 0, &l[1])
	checkFind(t, b, ix, 1000, nil)
	checkFind(t, b, ix, -1, &l[0])
	checkFindTime(t, b, ix, 1, nil)
	checkFindTime(t, b, ix, 0, &l[0])
	checkFindTime(t, b, ix, 101, nil)
	checkFindTime(t, b, ix[:1], 6, &l[2])
	checkFindTime(t, b, []Mark{{Offset: 1000, Time: 8, Pos: second}}, 9, &l[2])
}

// TestP902NoPlace fails if a Pos that is no place of b is anything but its beginning; the end of b is one.
func TestP902NoPlace(t *testing.T) {
	l := timed(5, 3, 9, 9, 1, 20, 0)
	b := segment.Bytes(l)
	roomy := append(slices.Clone(b), segment.Bytes(placed(500, 600))...)[:len(b)]
	for _, pos := range []int{-1, -2, -len(b), math.MinInt, len(b) + 1, len(b) + 2, 2 * len(b), 1 << 60, math.MaxInt} {
		for _, b := range [][]byte{b, roomy} {
			checkFind(t, b, at(pos), 0, &l[0])
			checkFind(t, b, at(pos), l[3].Offset, &l[3])
			checkFind(t, b, at(pos), 400, nil)
			checkFindTime(t, b, at(pos), 0, &l[0])
			checkFindTime(t, b, at(pos), 6, &l[2])
			checkFindTime(t, b, at(pos), 21, nil)
		}
	}
	for _, b := range [][]byte{b, roomy} {
		checkFind(t, b, at(len(b)), 0, nil)
		checkFind(t, b, at(len(b)), math.MinInt, nil)
		checkFindTime(t, b, at(len(b)), 0, nil)
		checkFindTime(t, b, at(len(b)), math.MinInt+1, nil)
		// No Mark has a Time below the least int: it goes from the beginning on.
		checkFindTime(t, b, at(len(b)), math.MinInt, &l[0])
	}
}

// TestP902AnyPlace seeks every place of some bytes, most of them in the middle of a frame.
func TestP902AnyPlace(t *testing.T) {
	inner := segment.Bytes([]api.Record{{Offset: 2, Time: 30, Key: "in"}, {Offset: 90, Time: 40, Key: "in"}})
	nested := []api.Record{{Offset: 5, Time: 1, Key: "out", Value: string(inner)}, {Offset: 7, Time: 2, Key: "out"}}
	for _, l := range [][]api.Record{timed(5, 3, 9), placed(0, 1, 2, 3), nested} {
		b := segment.Bytes(l)
		for pos := -3; pos < len(b)+4; pos++ {
			for _, n := range places(l) {
				checkFinds(t, b, at(pos), n)
			}
		}
	}
	b := segment.Bytes(nested)
	// A frame in the middle of another one is a frame, if that is where the Mark tells to go.
	in := bytes.Index(b, inner)
	checkFind(t, b, at(in), 0, &api.Record{Offset: 2, Time: 30, Key: "in"})
	checkFind(t, b, at(in), 3, &api.Record{Offset: 90, Time: 40, Key: "in"})
	checkFindTime(t, b, at(in), 31, &api.Record{Offset: 90, Time: 40, Key: "in"})
	checkFind(t, b, at(in+1), 0, nil)
	checkFindTime(t, b, at(in+1), 0, nil)
}

// TestP902Torn tears and turns bytes: what stands between the place and the fault is found, what stands behind it is not.
func TestP902Torn(t *testing.T) {
	l := timed(1, 2, 3, 4, 5, 6)
	b := segment.Bytes(l)
	ix := Make(l, 2)
	third, fourth, fifth := len(segment.Bytes(l[:2])), len(segment.Bytes(l[:3])), len(segment.Bytes(l[:4]))
	turned := slices.Clone(b)
	turned[fifth-1] ^= 1
	for _, b := range [][]byte{turned, b[:fifth-1], b[:fourth+1]} {
		checkFind(t, b, ix, l[2].Offset, &l[2])
		checkFind(t, b, ix, l[2].Offset+1, nil)
		checkFind(t, b, ix, l[3].Offset, nil)
		checkFindTime(t, b, ix, 3, &l[2])
		checkFindTime(t, b, ix, 4, nil)
	}
	// The fault stands ahead of where the fifth one is looked for.
	checkFind(t, turned, ix, l[4].Offset, &l[4])
	checkFind(t, turned, ix, l[5].Offset, &l[5])
	checkFindTime(t, turned, ix, 5, &l[4])
	checkFind(t, turned, nil, l[4].Offset, nil)
	checkFindTime(t, turned, nil, 5, nil)
	// What was torn off is not there: that place is above the length, so it goes from the beginning on.
	checkFind(t, b[:fifth-1], ix, l[4].Offset, nil)
	checkFind(t, b[:third-1], at(third), 0, &l[0])
	checkFind(t, b[:third], at(third), 0, nil)
	for k := range len(b) + 1 {
		for _, n := range places(l) {
			checkFinds(t, b[:k], ix, n)
		}
	}
}

func TestP902TurnedBits(t *testing.T) {
	l := []api.Record{{Offset: 2, Time: 5, Key: "a"}, {Offset: 4, Time: 3, Key: "a", Value: "v"}, {Offset: 9, Time: 8, Key: "b", Dead: true}, {Offset: 10, Time: 9, Key: "c"}}
	b := segment.Bytes(l)
	for i := range b {
		for k := range 8 {
			b[i] ^= 1 << k
			for _, every := range []int{1, 2, 9} {
				for n := -1; n < 12; n++ {
					checkFinds(t, b, Make(l, every), n)
				}
			}
			b[i] ^= 1 << k
		}
	}
}

// TestP902OffsetsThatDoNotRise fails if a record is found that Scan from the place on does not have.
func TestP902OffsetsThatDoNotRise(t *testing.T) {
	l := placed(3, 5, 4, 8, 8, 9)
	b := segment.Bytes(l)
	checkFind(t, b, nil, 3, &l[0])
	checkFind(t, b, nil, 5, &l[1])
	checkFind(t, b, nil, 6, nil)
	checkFindTime(t, b, nil, 1, &l[1])
	checkFindTime(t, b, nil, 2, nil)
	ix := Make(l, 1)
	checkFind(t, b, ix, 4, &l[2])
	checkFind(t, b, ix, 6, &l[3])
	checkFind(t, b, ix, 8, &l[4])
	checkFind(t, b, ix, 9, &l[5])
	checkFind(t, b, ix, 10, nil)
	checkFind(t, b, at(len(segment.Bytes(l[:2]))), 9, nil)
	checkFindTime(t, b, ix, 2, &l[2])
	checkFindTime(t, b, ix, 5, &l[5])
}

func TestP902OfNoSegment(t *testing.T) {
	zeros := make([]byte, 40)
	for _, b := range [][]byte{nil, {}, segment.Bytes(placed(3))[:0], {0}, {0x80}, []byte(text(300)), zeros, bytes.Repeat([]byte{255}, 40), bytes.Repeat([]byte{128}, 12)} {
		for _, ix := range [][]Mark{nil, {}, at(0), at(1), at(-1), at(len(b)), at(len(b) + 1), at(math.MaxInt), at(math.MinInt), Make(placed(0, 1, 2), 1)} {
			for _, n := range places(nil) {
				checkFind(t, b, ix, n, nil)
				checkFindTime(t, b, ix, n, nil)
			}
		}
	}
}

// TestP903FirstOfTheWholeList finds every Offset and Time, and those beside them, with Marks of all kinds.
func TestP903FirstOfTheWholeList(t *testing.T) {
	for _, l := range rows() {
		b := segment.Bytes(l)
		for _, every := range everies(len(l)) {
			ix := Make(l, every)
			for _, n := range places(l) {
				checkWhole(t, b, ix, l, n)
			}
		}
	}
}

// TestP903WithNotRight makes Marks and bytes of lists in which some records are not right.
func TestP903WithNotRight(t *testing.T) {
	for _, l := range [][]api.Record{nil, timed(0), timed(5, 3, 9, 9, 1, 20, 0), timed(0, -topTime, topTime, 0)} {
		for _, mixed := range mixes(l) {
			b := segment.Bytes(mixed)
			for _, every := range []int{0, 1, 2, 3, 100} {
				ix := Make(mixed, every)
				for _, n := range places(l) {
					checkWhole(t, b, ix, l, n)
				}
			}
		}
	}
}

// TestP903MakeAnswersNewMemory fails if Make turns its list, or its spare room, or if two answers share memory.
func TestP903MakeAnswersNewMemory(t *testing.T) {
	for _, l := range append(rows(), wrong()) {
		for _, every := range []int{1, 2, math.MaxInt} {
			all := append(slices.Clone(l), placed(9000, 9001, 9002)...)
			list := slices.Clone(all)[:len(l)]
			want := slowMake(l, every)
			first, second := Make(list, every), Make(list, every)
			if !slices.Equal(list[:len(all)], all) {
				t.Fatalf("P903: Make turned %v into %v", all, list[:len(all)])
			}
			clear(second[:cap(second)])
			clear(list[:cap(list)])
			if !slices.Equal(first, want) {
				t.Fatalf("P903: what Make of %v answered became %v", l, first)
			}
		}
	}
}

// TestP903FindsAnswerNewMemory fails if a call turns its bytes or Marks, or their spare room, or if a record stands in these bytes.
func TestP903FindsAnswerNewMemory(t *testing.T) {
	l := timed(5, 3, 9, 9, 1, 20, 0)
	for _, every := range []int{1, 3} {
		for _, n := range places(l) {
			b := append(segment.Bytes(l), "spare"...)
			ix := append(Make(l, every), Mark{Offset: -5, Time: -5, Pos: 1})
			wasBytes, wasMarks := slices.Clone(b), slices.Clone(ix)
			size, count := len(b)-len("spare"), len(ix)-1
			want, _ := slowFirst(l, func(r api.Record) bool { return r.Offset >= n })
			wantTime, _ := slowFirst(l, func(r api.Record) bool { return r.Time >= n })
			Seek(ix[:count], n)
			SeekTime(ix[:count], n)
			r, _ := Find(b[:size], ix[:count], n)
			byTime, _ := FindTime(b[:size], ix[:count], n)
			if !slices.Equal(b, wasBytes) || !slices.Equal(ix, wasMarks) {
				t.Fatalf("P903: a call with %d turned what was handed in", n)
			}
			for i := range b {
				b[i] = 'z'
			}
			if r != want || byTime != wantTime {
				t.Fatalf("P903: what was found at %d became %v and %v, want %v and %v", n, r, byTime, want, wantTime)
			}
		}
	}
}

// TestP903ArgumentsAlone asks the same again with other calls between.
func TestP903ArgumentsAlone(t *testing.T) {
	for _, l := range rows() {
		want, b := slowMake(l, 2), segment.Bytes(l)
		for _, between := range append(rows(), wrong()) {
			ix := Make(between, 3)
			Seek(ix, 7)
			SeekTime(ix, 7)
			Find(segment.Bytes(between), ix, 7)
			FindTime(segment.Bytes(between), ix, 7)
			if got := Make(l, 2); !slices.Equal(got, want) {
				t.Fatalf("P903: Make of %v, asked again: %v, want %v", l, got, want)
			}
			for _, n := range []int{-1, 0, 4, 9, topTime} {
				checkFinds(t, b, want, n)
			}
		}
	}
}

// TestP903KeepsNothing asks many at one time: what one call kept would be met by another.
func TestP903KeepsNothing(t *testing.T) {
	all := rows()
	var group sync.WaitGroup
	for k := range 8 {
		group.Go(func() {
			for i := range 100 {
				l := all[(i*(2*k+1)+k)%len(all)]
				ix, b := Make(l, k), segment.Bytes(l)
				if !slices.Equal(ix, slowMake(l, k)) {
					t.Errorf("P903: Make of %v, asked beside others: %v", l, ix)
				}
				checkWhole(t, b, ix, l, i)
			}
		})
	}
	group.Wait()
}
