package segs

import (
	"math"
	"testing"

	"cooperage/api"
)

// merges fails if Merge of s answers something else, or if false was answered and something changed.
func merges(t *testing.T, s *Log, most int, want bool) {
	t.Helper()
	was := s.Segments()
	if got := s.Merge(most); got != want {
		t.Fatalf("P1503: Merge %d of %q: %v", most, tell(was), got)
	}
	if got := s.Segments(); !want && !alike(got, was) {
		t.Fatalf("P1503: Merge %d of %q left %q", most, tell(was), tell(got))
	}
}

func TestP1503Merge(t *testing.T) {
	s := filled(times(5, 1, 2, 9, 4, 3, 8), 2)
	for _, most := range []int{3, 2, 1, 0, -1, math.MinInt} {
		merges(t, s, most, false)
	}
	merges(t, s, 4, true)
	is(t, s, "0-4 s 1 9,0,1,2,3; 4-6 s 0 4,4,5; 6-7  0 0,6")
	merges(t, s, 5, false)
	merges(t, s, 6, true)
	is(t, s, "0-6 s 2 9,0,1,2,3,4,5; 6-7  0 0,6")
	merges(t, s, 100, false)
	merges(t, s, math.MaxInt, false)
	if s.Low() != 0 || s.High() != 7 {
		t.Errorf("P1503: Low %d, High %d", s.Low(), s.High())
	}
	l := times(5, 1, 2, 9, 4, 3)
	g, _ := s.Find(5)
	for i, r := range g.Records {
		l[i].Offset = i
		if r != l[i] {
			t.Errorf("P1503: Merge made %+v of %+v", r, l[i])
		}
	}
	made(t, s.Segments())
}

// TestP1503MergeOfNone has logs of which no two segments are sealed.
func TestP1503MergeOfNone(t *testing.T) {
	for _, s := range []*Log{New(), filled(times(1), 9), filled(times(1), 1), filled(times(1, 2, 3), 2)} {
		for _, most := range numbers() {
			merges(t, s, most, false)
		}
	}
}

// TestP1503MergeTakesTheFirstThatFit has segments of 3, 2, 2, 1 and 1 records.
func TestP1503MergeTakesTheFirstThatFit(t *testing.T) {
	l := []api.Segment{
		fit(api.Segment{Base: 0, Next: 3, Sealed: true, Records: at(0, 1, 2)}),
		fit(api.Segment{Base: 3, Next: 5, Sealed: true, Records: at(3, 4)}),
		fit(api.Segment{Base: 5, Next: 7, Sealed: true, Records: at(5, 6)}),
		fit(api.Segment{Base: 7, Next: 8, Sealed: true, Records: at(7)}),
		fit(api.Segment{Base: 8, Next: 9, Sealed: true, Records: at(8)}),
		{Base: 9, Next: 9},
	}
	for _, x := range []struct {
		most int
		want string
	}{
		{2, "0-3 s 0 0,0,1,2; 3-5 s 0 0,3,4; 5-7 s 0 0,5,6; 7-9 s 1 0,7,8; 9-9  0 0"},
		{3, "0-3 s 0 0,0,1,2; 3-5 s 0 0,3,4; 5-8 s 1 0,5,6,7; 8-9 s 0 0,8; 9-9  0 0"},
		{4, "0-3 s 0 0,0,1,2; 3-7 s 1 0,3,4,5,6; 7-8 s 0 0,7; 8-9 s 0 0,8; 9-9  0 0"},
		{5, "0-5 s 1 0,0,1,2,3,4; 5-7 s 0 0,5,6; 7-8 s 0 0,7; 8-9 s 0 0,8; 9-9  0 0"},
		{math.MaxInt, "0-5 s 1 0,0,1,2,3,4; 5-7 s 0 0,5,6; 7-8 s 0 0,7; 8-9 s 0 0,8; 9-9  0 0"},
	} {
		s := made(t, l)
		merges(t, s, x.most, true)
		is(t, s, x.want)
	}
	merges(t, made(t, l), 1, false)
}

// TestP1503MergeInTurn merges until nothing fits any more.
func TestP1503MergeInTurn(t *testing.T) {
	s := filled(times(1, 2, 3, 4, 5, 6, 7), 1)
	for _, want := range []string{
		"0-2 s 1 2,0,1; 2-3 s 0 3,2; 3-4 s 0 4,3; 4-5 s 0 5,4; 5-6 s 0 6,5; 6-7 s 0 7,6; 7-7  0 0",
		"0-3 s 2 3,0,1,2; 3-4 s 0 4,3; 4-5 s 0 5,4; 5-6 s 0 6,5; 6-7 s 0 7,6; 7-7  0 0",
		"0-3 s 2 3,0,1,2; 3-5 s 1 5,3,4; 5-6 s 0 6,5; 6-7 s 0 7,6; 7-7  0 0",
		"0-3 s 2 3,0,1,2; 3-6 s 2 6,3,4,5; 6-7 s 0 7,6; 7-7  0 0",
	} {
		merges(t, s, 3, true)
		is(t, s, want)
	}
	merges(t, s, 3, false)
	merges(t, s, 4, true)
	is(t, s, "0-3 s 2 3,0,1,2; 3-7 s 3 7,3,4,5,6; 7-7  0 0")
	merges(t, s, 6, false)
	merges(t, s, 7, true)
	is(t, s, "0-7 s 4 7,0,1,2,3,4,5,6; 7-7  0 0")
}

// TestP1503MergeOfHollowOnes counts the records that stand there, and no offsets.
func TestP1503MergeOfHollowOnes(t *testing.T) {
	s := filled(row("a=1 a=2 a=3 a=4 a=5 b=1"), 2)
	s.Clean(100, 0, 0)
	is(t, s, "0-2 sc 1 20; 2-4 sc 1 40; 4-6 sc 0 60,4,5; 6-6  0 0")
	merges(t, s, -1, false)
	merges(t, s, 0, true)
	is(t, s, "0-4 sc 2 40; 4-6 sc 0 60,4,5; 6-6  0 0")
	merges(t, s, 0, false)
	merges(t, s, 1, false)
	merges(t, s, 2, true)
	is(t, s, "0-6 sc 3 60,4,5; 6-6  0 0")
}

// TestP1503MergeOfFields has each flag, Gen and Time in both orders.
func TestP1503MergeOfFields(t *testing.T) {
	for _, clean := range []int{0, 1, 2, 3} {
		for _, gens := range [][2]int{{0, 0}, {1, 4}, {4, 1}, {3, 3}, {0, math.MaxInt - 1}} {
			for _, ends := range [][2]int{{5, 9}, {9, 5}, {-5, -9}, {-9, -5}, {0, -1}, {-1, 0}, {api.MaxTime, -api.MaxTime}, {7, 7}} {
				l := []api.Segment{
					fit(api.Segment{Base: 2, Next: 6, Sealed: true, Clean: clean&1 > 0, Gen: gens[0], Time: ends[0], Records: at(3)}),
					fit(api.Segment{Base: 6, Next: 9, Sealed: true, Clean: clean&2 > 0, Gen: gens[1], Time: ends[1], Records: at(7, 8)}),
					{Base: 9, Next: 9},
				}
				s := made(t, l)
				merges(t, s, 2, false)
				merges(t, s, 3, true)
				one := fit(api.Segment{Base: 2, Next: 9, Sealed: true, Clean: clean == 3, Gen: max(gens[0], gens[1]) + 1, Time: max(ends[0], ends[1]), Records: at(3, 7, 8)})
				if got := s.Segments(); !alike(got, []api.Segment{one, l[2]}) {
					t.Fatalf("P1503: Merge of %+v: %+v", l, got)
				}
			}
		}
	}
}

// TestP1503MergeWithRemoteOnes has segments in the store: none of them is merged, nor one with one of them.
func TestP1503MergeWithRemoteOnes(t *testing.T) {
	for away := range 5 {
		s := filled(times(1, 2, 3, 4), 1)
		for range away {
			offloads(t, s)
		}
		want := []string{
			"0-2 s 1 2,0,1; 2-3 s 0 3,2; 3-4 s 0 4,3; 4-4  0 0",
			"0-1 sr 0 1; 1-3 s 1 3,1,2; 3-4 s 0 4,3; 4-4  0 0",
			"0-1 sr 0 1; 1-2 sr 0 2; 2-4 s 1 4,2,3; 4-4  0 0",
			"0-1 sr 0 1; 1-2 sr 0 2; 2-3 sr 0 3; 3-4 s 0 4,3; 4-4  0 0",
			"0-1 sr 0 1; 1-2 sr 0 2; 2-3 sr 0 3; 3-4 sr 0 4; 4-4  0 0",
		}[away]
		merges(t, s, 100, away < 3)
		is(t, s, want)
	}
}

// offload is a call of Offload and its answer.
type offload struct {
	base, gen, size int
	sum             uint32
	want            api.Errno
	why             string
}

// TestP1503Offload has segments that were merged and cleaned, so that they bear a Gen.
func TestP1503Offload(t *testing.T) {
	start := filled(row("a=1 a=2 a=3 b=1 c=1 a=4 d=1"), 2)
	start.Clean(4, 0, 0)
	is(t, start, "0-2 sc 1 20; 2-4 sc 0 40,2,3; 4-6 s 0 60,4,5; 6-7  0 0,6")
	merges(t, start, 2, true)
	is(t, start, "0-4 sc 2 40,2,3; 4-6 s 0 60,4,5; 6-7  0 0,6")
	l := start.Segments()
	n0, s0 := proof(l[0])
	n1, s1 := proof(l[1])
	n2, s2 := proof(l[2])
	for _, x := range []offload{
		{0, 2, n0, s0, api.OK, "the first one"},
		{1, 2, n0, s0, api.ErrNone, "no segment has that Base"},
		{2, 2, n0, s0, api.ErrNone, "no segment has that Base any more"},
		{-1, 2, n0, s0, api.ErrNone, "a Base below 0"},
		{math.MaxInt, 2, n0, s0, api.ErrNone, "the greatest Base"},
		{math.MinInt, 2, n0, s0, api.ErrNone, "the least Base"},
		{7, 2, n0, s0, api.ErrNone, "High"},
		{0, 1, n0, s0, api.ErrNone, "an earlier Gen"},
		{0, 3, n0, s0, api.ErrNone, "a later Gen"},
		{0, 0, n0, s0, api.ErrNone, "another one's Gen"},
		{0, -1, n0, s0, api.ErrNone, "a Gen below 0"},
		{0, math.MaxInt, n0, s0, api.ErrNone, "the greatest Gen"},
		{4, 2, n1, s1, api.ErrNone, "the first one's Gen"},
		{4, 0, n1, s1, api.ErrArg, "one stands ahead"},
		{4, 0, n1 + 1, s1 + 1, api.ErrArg, "one stands ahead, and nothing is right"},
		{4, 1, n1 + 1, s1 + 1, api.ErrNone, "nothing is right"},
		{6, 0, n2, s2, api.ErrNone, "the active one"},
		{0, 2, n0 + 1, s0, api.ErrArg, "a size that is one off"},
		{0, 2, n0 - 1, s0, api.ErrArg, "a size that is one off"},
		{0, 2, 0, s0, api.ErrArg, "no size"},
		{0, 2, -n0, s0, api.ErrArg, "a size below 0"},
		{0, 2, n0 + 1<<32, s0, api.ErrArg, "a size far off"},
		{0, 2, n0, s0 + 1, api.ErrArg, "a sum that is one off"},
		{0, 2, n0, s0 - 1, api.ErrArg, "a sum that is one off"},
		{0, 2, n0, 0, api.ErrArg, "no sum"},
		{0, 2, n0, ^s0, api.ErrArg, "a sum turned over"},
		{0, 2, n1, s1, api.ErrArg, "another one's size and sum"},
		{0, 2, n0 + 1, s0 + 1, api.ErrArg, "both off"},
	} {
		s := start.Copy()
		if e := s.Offload(x.base, x.gen, x.size, x.sum); e != x.want {
			t.Errorf("P1503: Offload of %s: %v, want %v", x.why, e, x.want)
		}
		want := start.Segments()
		if x.want == api.OK {
			want[0].Remote, want[0].Size, want[0].Sum, want[0].Records = true, n0, s0, nil
		}
		if got := s.Segments(); !alike(got, want) {
			t.Errorf("P1503: Offload of %s: %+v", x.why, got)
		}
	}
}

// TestP1503OffloadInTurn sends one away after the other, each one once.
func TestP1503OffloadInTurn(t *testing.T) {
	s := filled(times(5, 1, 2, 9, 4, 3, 8), 2)
	l := s.Segments()
	for i := range 3 {
		size, sum := proof(l[i])
		for k := i + 1; k < 3; k++ {
			n, m := proof(l[k])
			if e := s.Offload(l[k].Base, 0, n, m); e != api.ErrArg {
				t.Errorf("P1503: Offload of %d ahead of %d: %v", k, i, e)
			}
		}
		if e := s.Offload(l[i].Base, 0, size, sum); e != api.OK {
			t.Errorf("P1503: Offload of %d: %v", i, e)
		}
		l[i].Remote, l[i].Size, l[i].Sum, l[i].Records = true, size, sum, nil
		for k := range i + 1 {
			if e := s.Offload(l[k].Base, 0, l[k].Size, l[k].Sum); e != api.ErrNone {
				t.Errorf("P1503: Offload of %d once more: %v", k, e)
			}
		}
		if got := s.Segments(); !alike(got, l) {
			t.Errorf("P1503: Offload of %d: %+v", i, got)
		}
		made(t, s.Segments())
	}
	is(t, s, "0-2 sr 0 5; 2-4 sr 0 9; 4-6 sr 0 4; 6-7  0 0,6")
	s.Seal()
	offloads(t, s)
	is(t, s, "0-2 sr 0 5; 2-4 sr 0 9; 4-6 sr 0 4; 6-7 sr 0 8; 7-7  0 0")
	for offset := range 7 {
		if g, ok := s.Find(offset); !ok || !g.Remote || g.Base != offset/2*2 || len(g.Records) != 0 {
			t.Errorf("P1501: Find %d: %+v, %v", offset, g, ok)
		}
	}
}

// TestP1503OffloadOfNoRecords has sealed segments of offsets that have no record.
func TestP1503OffloadOfNoRecords(t *testing.T) {
	s := made(t, []api.Segment{{Base: 0, Next: 4, Gen: 3, Sealed: true}, {Base: 4, Next: 4}})
	for _, x := range []offload{{0, 3, 1, 0, api.ErrArg, ""}, {0, 3, 0, 1, api.ErrArg, ""}, {4, 0, 0, 0, api.ErrNone, ""}, {0, 3, 0, 0, api.OK, ""}, {0, 3, 0, 0, api.ErrNone, ""}} {
		if e := s.Offload(x.base, x.gen, x.size, x.sum); e != x.want {
			t.Errorf("P1503: Offload %+v: %v", x, e)
		}
	}
	is(t, s, "0-4 sr 3 0; 4-4  0 0")
	for _, s := range []*Log{New(), made(t, []api.Segment{{Base: 5, Next: 5}}), made(t, []api.Segment{{Base: 5, Next: 9}})} {
		for _, n := range numbers() {
			if e := s.Offload(n, 0, 0, 0); e != api.ErrNone {
				t.Errorf("P1503: Offload %d of a log without a sealed one: %v", n, e)
			}
		}
	}
}

// TestP1503OffloadNumbers turns each number of a call alone: no other one will do.
func TestP1503OffloadNumbers(t *testing.T) {
	s := filled(times(5, 1), 2)
	size, sum := proof(s.Segments()[0])
	for _, n := range append(numbers(), size+1<<32, size-1<<32) {
		for _, x := range []offload{
			{n, 0, size, sum, api.ErrNone, "Base"},
			{0, n, size, sum, api.ErrNone, "Gen"},
			{0, 0, n, sum, api.ErrArg, "size"},
			{0, 0, size, uint32(n), api.ErrArg, "sum"},
		} {
			c := s.Copy()
			want := x.want
			if x.base == 0 && x.gen == 0 && x.size == size && x.sum == sum {
				want = api.OK
			}
			if e := c.Offload(x.base, x.gen, x.size, x.sum); e != want {
				t.Errorf("P1503: Offload with the %s %d: %v", x.why, n, e)
			}
		}
	}
}

// TestP1503OffloadHeedsEachBit turns each bit of a sum, and each record of a segment.
func TestP1503OffloadHeedsEachBit(t *testing.T) {
	s := filled(row("a=1 b=2 c d=4"), 4)
	size, sum := proof(s.Segments()[0])
	for i := range 32 {
		if e := s.Offload(0, 0, size, sum^1<<i); e != api.ErrArg {
			t.Errorf("P1503: Offload with bit %d turned: %v", i, e)
		}
	}
	for i := range 4 {
		l := row("a=1 b=2 c d=4")
		l[i].Time++
		other := filled(l, 4)
		if e := other.Offload(0, 0, size, sum); e != api.ErrArg {
			t.Errorf("P1503: Offload of another record %d: %v", i, e)
		}
	}
	offloads(t, s)
}
