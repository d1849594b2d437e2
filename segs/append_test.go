package segs

import (
	"math"
	"slices"
	"strings"
	"testing"

	"cooperage/api"
)

func TestP1501Example(t *testing.T) {
	s := New()
	if n := s.Append(times(5, 3, 9), 2); n != 0 {
		t.Errorf("P1501: Append: %d", n)
	}
	is(t, s, "0-2 s 0 5,0,1; 2-3  0 0,2")
}

func TestP1501New(t *testing.T) {
	for _, s := range []*Log{New(), new(Log), filled(nil, 1), new(Log).Copy()} {
		is(t, s, "0-0  0 0")
		if s.Low() != 0 || s.High() != 0 {
			t.Errorf("P1501: Low %d, High %d", s.Low(), s.High())
		}
		for _, n := range numbers() {
			if g, ok := s.Find(n); ok || !alike([]api.Segment{g}, []api.Segment{{}}) {
				t.Errorf("P1501: Find %d: %+v, %v", n, g, ok)
			}
		}
	}
}

// TestP1501Most appends up to 9 records with each most, all in one call, one by one, and some at first.
func TestP1501Most(t *testing.T) {
	l := times(5, 3, 9, -4, -8, -6, 0, 7, 2)
	for _, most := range append(numbers(), 10, 11) {
		for count := range len(l) + 1 {
			for first := range count + 1 {
				s, want := New(), newSlow()
				for _, piece := range [][]api.Record{l[:first], l[first:count]} {
					if got, n := s.Append(piece, most), want.append(piece, most); got != n {
						t.Fatalf("P1501: Append of %d records, most %d: %d, want %d", len(piece), most, got, n)
					}
					isSlow(t, s, want, "P1501: Append")
				}
			}
			one := New()
			for i := range l[:count] {
				if n := one.Append(l[i:i+1], most); n != i {
					t.Fatalf("P1501: Append one by one, most %d: %d, want %d", most, n, i)
				}
			}
			if all := filled(l[:count], most); !alike(one.Segments(), all.Segments()) {
				t.Fatalf("P1501: most %d: one by one %q, at once %q", most, tell(one.Segments()), tell(all.Segments()))
			}
		}
	}
	// Named ones, so that no second log stands between.
	is(t, filled(l[:1], 2), "0-1  0 0,0")
	is(t, filled(l[:2], 2), "0-2 s 0 5,0,1; 2-2  0 0")
	is(t, filled(l[:3], 2), "0-2 s 0 5,0,1; 2-3  0 0,2")
	is(t, filled(l[:4], 2), "0-2 s 0 5,0,1; 2-4 s 0 9,2,3; 4-4  0 0")
	is(t, filled(l[:5], 3), "0-3 s 0 9,0,1,2; 3-5  0 0,3,4")
	for _, most := range []int{1, 0, -1, math.MinInt} {
		is(t, filled(l[:3], most), "0-1 s 0 5,0; 1-2 s 0 3,1; 2-3 s 0 9,2; 3-3  0 0")
	}
	is(t, filled(l[:3], math.MaxInt), "0-3  0 0,0,1,2")
}

// TestP1501SmallerMost has an active segment that has as many offsets as a later most, or more.
func TestP1501SmallerMost(t *testing.T) {
	for _, x := range []struct {
		most int
		want string
	}{
		{2, "0-4 s 0 3,0,1,2,3; 4-6 s 0 5,4,5; 6-6  0 0"},
		{3, "0-4 s 0 3,0,1,2,3; 4-6  0 0,4,5"},
		{4, "0-4 s 0 3,0,1,2,3; 4-6  0 0,4,5"},
		{5, "0-5 s 0 4,0,1,2,3,4; 5-6  0 0,5"},
		{0, "0-4 s 0 3,0,1,2,3; 4-5 s 0 4,4; 5-6 s 0 5,5; 6-6  0 0"},
		{math.MinInt, "0-4 s 0 3,0,1,2,3; 4-5 s 0 4,4; 5-6 s 0 5,5; 6-6  0 0"},
	} {
		s := filled(times(1, 2, 2), 9)
		// No record has come that could make it full.
		for _, l := range [][]api.Record{nil, {}, {{}}} {
			if n := s.Append(l, x.most); n != 3 {
				t.Errorf("P1501: Append of none: %d", n)
			}
			is(t, s, "0-3  0 0,0,1,2")
		}
		s.Append(times(3, 4, 5), x.most)
		is(t, s, x.want)
	}
}

// TestP1501GapsCountAsOffsets has an active segment with offsets that have no record: these count, not the records.
func TestP1501GapsCountAsOffsets(t *testing.T) {
	hollow := api.Segment{Base: 5, Next: 9}
	for _, most := range []int{1, 4, 5} {
		s := made(t, []api.Segment{hollow})
		if n := s.Append(times(-3), most); n != 9 {
			t.Errorf("P1501: Append: %d", n)
		}
		is(t, s, "5-10 s 0 -3,9; 10-10  0 0")
	}
	s := made(t, []api.Segment{hollow})
	s.Append(times(-3), 6)
	is(t, s, "5-10  0 0,9")
}

// TestP1501NotRight appends what is not record.Right, and what is but for its Offset.
func TestP1501NotRight(t *testing.T) {
	key, value := strings.Repeat("k", api.MaxKey), strings.Repeat("v", api.MaxValue)
	wrong := []api.Record{
		{},
		{Key: ""},
		{Key: "", Value: "v"},
		{Key: key + "k"},
		{Key: "a", Value: value + "v"},
		{Key: "a", Value: "v", Dead: true},
		{Key: "a", Time: api.MaxTime + 1},
		{Key: "a", Time: -api.MaxTime - 1},
		{Key: "a", Time: math.MaxInt},
		{Key: "a", Time: math.MinInt},
	}
	right := []api.Record{
		{Key: "a"},
		{Key: key, Value: value},
		{Key: "\xff", Value: "\x00"},
		{Key: "a", Dead: true},
		{Key: "a", Time: api.MaxTime},
		{Key: "a", Time: -api.MaxTime},
	}
	for _, offset := range append(numbers(), 10, 3) {
		for _, w := range wrong {
			w.Offset = offset
			s := filled(times(1, 2, 3), 9)
			if n := s.Append([]api.Record{w}, 1); n != 3 {
				t.Fatalf("P1501: Append of %+v: %d", w, n)
			}
			is(t, s, "0-3  0 0,0,1,2")
			for _, r := range right {
				r.Offset = offset
				for _, l := range [][]api.Record{{r}, {w, r}, {r, w}, {w, w, r, w}} {
					s := filled(times(1, 2, 3), 9)
					if n := s.Append(l, 9); n != 3 {
						t.Fatalf("P1501: Append of %+v: %d", l, n)
					}
					is(t, s, "0-4  0 0,0,1,2,3")
					got := s.Segments()[0].Records[3]
					r.Offset = 3
					if got != r {
						t.Fatalf("P1501: %+v, want %+v", got, r)
					}
					r.Offset = offset
				}
			}
		}
	}
}

// TestP1501AppendAnswers looks at the answer where none is right, and where the first one is not.
func TestP1501AppendAnswers(t *testing.T) {
	s := New()
	for i, x := range []struct {
		l    []api.Record
		most int
		want int
	}{
		{nil, 1, 0}, {[]api.Record{{}}, 1, 0}, {times(1, 2), 2, 0}, {nil, 2, 2}, {[]api.Record{{}, {}}, 2, 2},
		{append([]api.Record{{}}, times(1, 2, 3)...), 2, 2}, {times(9), 2, 5}, {[]api.Record{{Offset: 99}}, 2, 6},
	} {
		if n := s.Append(x.l, x.most); n != x.want {
			t.Errorf("P1501: Append %d: %d, want %d", i, n, x.want)
		}
	}
	is(t, s, "0-2 s 0 2,0,1; 2-4 s 0 2,2,3; 4-6 s 0 9,4,5; 6-6  0 0")
}

// TestP1501Numbers fills a log up to the greatest Next that Of takes, and beyond.
func TestP1501Numbers(t *testing.T) {
	const top = 1 << 50
	s := made(t, []api.Segment{{Base: top - 2, Next: top - 2}})
	if n := s.Append(times(1, 2), 5); n != top-2 || s.High() != top {
		t.Errorf("P1501: %d, High %d", n, s.High())
	}
	made(t, s.Segments())
	if n := s.Append(times(3), 5); n != top || s.High() != top+1 || s.Low() != top-2 {
		t.Errorf("P1501: %d, High %d", n, s.High())
	}
	if g, ok := s.Find(top); !ok || len(g.Records) != 3 || g.Records[2].Offset != top || g.Size != len(slowBytes(g.Records)) {
		t.Errorf("P1501: Find: %+v, %v", g, ok)
	}
	if _, ok := s.Find(top + 1); ok {
		t.Error("P1501: Find at High")
	}
	if _, ok := Of(s.Segments()); ok {
		t.Error("P1501: Of takes a Next above 2^50")
	}
}

func TestP1501Seal(t *testing.T) {
	for _, x := range []struct {
		times []int
		want  string
	}{
		{nil, "0-0  0 0"},
		{[]int{0}, "0-1 s 0 0,0; 1-1  0 0"},
		{[]int{7}, "0-1 s 0 7,0; 1-1  0 0"},
		{[]int{-7}, "0-1 s 0 -7,0; 1-1  0 0"},
		{[]int{-7, -3, -9}, "0-3 s 0 -3,0,1,2; 3-3  0 0"},
		{[]int{-3, -7, -9}, "0-3 s 0 -3,0,1,2; 3-3  0 0"},
		{[]int{-9, -7, -3}, "0-3 s 0 -3,0,1,2; 3-3  0 0"},
		{[]int{5, 5, 4}, "0-3 s 0 5,0,1,2; 3-3  0 0"},
		{[]int{-5, 0}, "0-2 s 0 0,0,1; 2-2  0 0"},
		{[]int{-api.MaxTime}, "0-1 s 0 -1099511627776,0; 1-1  0 0"},
		{[]int{api.MaxTime, -api.MaxTime}, "0-2 s 0 1099511627776,0,1; 2-2  0 0"},
	} {
		s := filled(times(x.times...), 9)
		for range 3 {
			s.Seal()
			is(t, s, x.want)
		}
		// One that is full has the Time that Seal would give.
		if count := len(x.times); count > 0 {
			is(t, filled(times(x.times...), count), x.want)
		}
	}
}

// TestP1501SealOfWhatOfMade has active segments with offsets that have no record.
func TestP1501SealOfWhatOfMade(t *testing.T) {
	l := times(-7, -3)
	l[0].Offset, l[1].Offset = 6, 8
	for _, x := range []struct {
		g    api.Segment
		want string
	}{
		{api.Segment{Base: 5, Next: 5}, "5-5  0 0"},
		{api.Segment{Base: 5, Next: 5, Gen: 3}, "5-5  3 0"},
		{api.Segment{Base: 5, Next: 9}, "5-9 s 0 0; 9-9  0 0"},
		{api.Segment{Base: 5, Next: 9, Gen: 3}, "5-9 s 3 0; 9-9  0 0"},
		{api.Segment{Base: 5, Next: 9, Records: l[:1], Size: len(slowBytes(l[:1]))}, "5-9 s 0 -7,6; 9-9  0 0"},
		{api.Segment{Base: 5, Next: 9, Records: l, Size: len(slowBytes(l))}, "5-9 s 0 -3,6,8; 9-9  0 0"},
		{api.Segment{Base: 0, Next: 1 << 50}, "0-1125899906842624 s 0 0; 1125899906842624-1125899906842624  0 0"},
		{api.Segment{Base: 1 << 50, Next: 1 << 50}, "1125899906842624-1125899906842624  0 0"},
	} {
		s := made(t, []api.Segment{x.g})
		for range 3 {
			s.Seal()
			is(t, s, x.want)
		}
	}
}

// TestP1501Find asks for all offsets of logs whose segments are full, hollow, in a store and cleaned away.
func TestP1501Find(t *testing.T) {
	s := filled(row("a=1 b=1 a=2 b=2 a=3 b=3 a=4"), 2)
	s.Clean(6, 0, 0)
	is(t, s, "0-2 sc 1 20; 2-4 sc 1 40; 4-6 sc 0 60,4,5; 6-7  0 0,6")
	offloads(t, s)
	for _, x := range []struct {
		offset int
		base   int // -1: none
	}{
		{0, 0}, {1, 0}, {2, 2}, {3, 2}, {4, 4}, {5, 4}, {6, 6}, {7, -1}, {8, -1}, {-1, -1}, {math.MaxInt, -1}, {math.MinInt, -1}, {1 << 50, -1},
	} {
		g, ok := s.Find(x.offset)
		if ok != (x.base >= 0) || ok && g.Base != x.base || !ok && !alike([]api.Segment{g}, []api.Segment{{}}) {
			t.Errorf("P1501: Find %d: %+v, %v", x.offset, g, ok)
		}
		if i := slices.IndexFunc(s.Segments(), func(h api.Segment) bool { return h.Base == g.Base }); ok && !alike([]api.Segment{g}, s.Segments()[i:i+1]) {
			t.Errorf("P1501: Find %d: %+v, but Segments tells another one", x.offset, g)
		}
	}
	s.Retain(api.Conf{Age: 1}, 42)
	is(t, s, "4-6 sc 0 60,4,5; 6-7  0 0,6")
	for offset, want := range map[int]bool{-1: false, 0: false, 3: false, 4: true, 5: true, 6: true, 7: false, math.MinInt: false, math.MaxInt: false} {
		if _, ok := s.Find(offset); ok != want {
			t.Errorf("P1501: Find %d behind a Retain: %v", offset, ok)
		}
	}
	// An active one without an offset is where no offset stands.
	for _, l := range [][]api.Segment{{{Base: 5, Next: 5}}, {{Base: 3, Next: 5, Sealed: true}, {Base: 5, Next: 5}}} {
		s := made(t, l)
		for offset := range 9 {
			if g, ok := s.Find(offset); ok != (offset >= s.Low() && offset < 5) || ok && g.Base != 3 {
				t.Errorf("P1501: Find %d in %q: %+v, %v", offset, tell(l), g, ok)
			}
		}
	}
}

// TestP1501GreatLog ends in time only if the time of Append and Find does not grow with the log.
func TestP1501GreatLog(t *testing.T) {
	const count = 60000
	for _, most := range []int{1, 100, count + 1} {
		s := New()
		for i := range count {
			if n := s.Append(times(i), most); n != i {
				t.Fatalf("P1501: Append: %d, want %d", n, i)
			}
		}
		if s.Low() != 0 || s.High() != count || len(s.Segments()) != count/most+1 {
			t.Fatalf("P1501: Low %d, High %d, %d segments", s.Low(), s.High(), len(s.Segments()))
		}
		if most > 100 {
			continue
		}
		for i := range count {
			if g, ok := s.Find(i); !ok || g.Base != i/most*most || g.Next != g.Base+most {
				t.Fatalf("P1501: Find %d: %+v, %v", i, g, ok)
			}
		}
		s.Clean(count, 0, 0)
		offloads(t, s)
		s.Retain(api.Conf{Age: 1}, count/2)
		if s.Low() < count/2-most-1 || s.Low() > count/2 {
			t.Fatalf("P1502: Low %d", s.Low())
		}
	}
}
