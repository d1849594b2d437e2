package segs

import (
	"math"
	"testing"

	"cooperage/api"
)

// keyed is a log of 4 segments, whose keys come again: a b a | b a c | c(dead) b | a.
func keyed() *Log {
	s := filled(row("a=1 b=1 a=2 b=2 a=3 c=1 c b=3"), 3)
	s.Seal()
	s.Append(row("a=4"), 3)
	return s
}

const whole8 = "0-3 s 0 30,0,1,2; 3-6 s 0 60,3,4,5; 6-8 s 0 80,6,7; 8-9  0 0,8"

func TestP1502Clean(t *testing.T) {
	is(t, keyed(), whole8)
	for _, x := range []struct {
		point, now int
		want       string
	}{
		{math.MinInt, 1000, whole8},
		{-1, 1000, whole8},
		{0, 1000, whole8},
		{1, 1000, whole8},
		{2, 1000, whole8},
		{3, 1000, "0-3 sc 1 30,1,2; 3-6 s 0 60,3,4,5; 6-8 s 0 80,6,7; 8-9  0 0,8"},
		{4, 1000, "0-3 sc 1 30,2; 3-6 s 0 60,3,4,5; 6-8 s 0 80,6,7; 8-9  0 0,8"},
		{5, 1000, "0-3 sc 1 30; 3-6 s 0 60,3,4,5; 6-8 s 0 80,6,7; 8-9  0 0,8"},
		{6, 1000, "0-3 sc 1 30; 3-6 sc 0 60,3,4,5; 6-8 s 0 80,6,7; 8-9  0 0,8"},
		// 7: the dead one is the last c ahead of it, and its time is up.
		{7, 1000, "0-3 sc 1 30; 3-6 sc 1 60,3,4; 6-8 s 1 80,7; 8-9  0 0,8"},
		{7, 75, "0-3 sc 1 30; 3-6 sc 1 60,3,4; 6-8 s 0 80,6,7; 8-9  0 0,8"},
		{8, 1000, "0-3 sc 1 30; 3-6 sc 1 60,4; 6-8 sc 1 80,7; 8-9  0 0,8"},
		{8, 75, "0-3 sc 1 30; 3-6 sc 1 60,4; 6-8 sc 0 80,6,7; 8-9  0 0,8"},
		{8, 76, "0-3 sc 1 30; 3-6 sc 1 60,4; 6-8 sc 1 80,7; 8-9  0 0,8"},
		// The active one's Base is 8: what is behind it counts no more than that.
		{9, 76, "0-3 sc 1 30; 3-6 sc 1 60,4; 6-8 sc 1 80,7; 8-9  0 0,8"},
		{1 << 50, 76, "0-3 sc 1 30; 3-6 sc 1 60,4; 6-8 sc 1 80,7; 8-9  0 0,8"},
		{math.MaxInt, 76, "0-3 sc 1 30; 3-6 sc 1 60,4; 6-8 sc 1 80,7; 8-9  0 0,8"},
		{math.MaxInt, math.MinInt, "0-3 sc 1 30; 3-6 sc 1 60,4; 6-8 sc 0 80,6,7; 8-9  0 0,8"},
	} {
		s := keyed()
		for range 3 {
			s.Clean(x.point, x.now, 5)
			is(t, s, x.want)
			if s.Low() != 0 || s.High() != 9 {
				t.Errorf("P1502: Low %d, High %d", s.Low(), s.High())
			}
		}
	}
}

// TestP1502CleanStays cleans further and less far in turn: what is gone and what is Clean stays so, and a Gen rises each time that some are gone.
func TestP1502CleanStays(t *testing.T) {
	s := keyed()
	for _, x := range []struct {
		point, now int
		want       string
	}{
		{3, 0, "0-3 sc 1 30,1,2; 3-6 s 0 60,3,4,5; 6-8 s 0 80,6,7; 8-9  0 0,8"},
		{4, 0, "0-3 sc 2 30,2; 3-6 s 0 60,3,4,5; 6-8 s 0 80,6,7; 8-9  0 0,8"},
		{0, 0, "0-3 sc 2 30,2; 3-6 s 0 60,3,4,5; 6-8 s 0 80,6,7; 8-9  0 0,8"},
		{8, 0, "0-3 sc 3 30; 3-6 sc 1 60,4; 6-8 sc 0 80,6,7; 8-9  0 0,8"},
		{-5, 1000, "0-3 sc 3 30; 3-6 sc 1 60,4; 6-8 sc 0 80,6,7; 8-9  0 0,8"},
		{6, 1000, "0-3 sc 3 30; 3-6 sc 1 60,4; 6-8 sc 0 80,6,7; 8-9  0 0,8"},
		{7, 1000, "0-3 sc 3 30; 3-6 sc 1 60,4; 6-8 sc 1 80,7; 8-9  0 0,8"},
	} {
		s.Clean(x.point, x.now, 5)
		is(t, s, x.want)
	}
	s.Append(row("b=9 a=9"), 3)
	s.Clean(100, 0, 0)
	is(t, s, "0-3 sc 3 30; 3-6 sc 2 60; 6-8 sc 2 80; 8-11 sc 1 20,9,10; 11-11  0 0")
}

// TestP1502CleanLeavesTheActiveOne has keys that come again in the active one alone.
func TestP1502CleanLeavesTheActiveOne(t *testing.T) {
	s := filled(row("a=1 a=2 a=3 a a b"), 100)
	for _, point := range append(numbers(), 10) {
		s.Clean(point, math.MaxInt, 0)
		is(t, s, "0-6  0 0,0,1,2,3,4,5")
	}
	s.Seal()
	s.Append(row("a=1 b=1 a a"), 100)
	// Those of the active one stand behind the point, so that they take none of the others with them.
	s.Clean(100, 0, 100)
	is(t, s, "0-6 sc 1 60,4,5; 6-10  0 0,6,7,8,9")
	s.Clean(100, 55, 4)
	is(t, s, "0-6 sc 2 60,5; 6-10  0 0,6,7,8,9")
	s.Clean(100, 65, 4)
	is(t, s, "0-6 sc 3 60; 6-10  0 0,6,7,8,9")
}

// TestP1502CleanAtAPoint has a point at, one ahead of and one behind each segment's Next: it is Clean from its Next on, with something gone and with nothing.
func TestP1502CleanAtAPoint(t *testing.T) {
	for _, l := range []string{"a=1 b=1 c=1 d=1 e=1 f=1", "a=1 a=2 a=3 a=4 a=5 a=6"} {
		for point := -1; point < 9; point++ {
			s := filled(row(l), 2)
			s.Clean(point, 0, 0)
			for i, g := range s.Segments()[:3] {
				if g.Clean != (point >= 2*(i+1)) {
					t.Errorf("P1502: Clean of %q up to %d: %+v", l, point, g)
				}
				gone := l[2] == '1' && l[4] == 'a' && min(point, 6) > 2*i+1
				if (g.Gen == 1) != gone || (len(g.Records) < 2) != gone {
					t.Errorf("P1502: Clean of %q up to %d: %+v", l, point, g)
				}
			}
		}
	}
}

// TestP1502CleanTimes turns now and grace: just grace behind a dead one stays.
func TestP1502CleanTimes(t *testing.T) {
	for _, x := range []struct {
		time, now, grace int
		gone             bool
	}{
		{5, 5, 0, false}, {5, 6, 0, true}, {5, 15, 10, false}, {5, 16, 10, true}, {5, 0, -5, false}, {5, 1, -5, true},
		{0, math.MaxInt, math.MaxInt, false}, {-1, math.MaxInt, math.MaxInt, true}, {5, math.MinInt, math.MinInt, false},
		{-5, math.MinInt, math.MinInt, true}, {5, math.MaxInt, math.MinInt, true}, {5, math.MinInt, math.MaxInt, false},
		{api.MaxTime, api.MaxTime + 1, 0, true}, {-api.MaxTime, -api.MaxTime, 0, false},
	} {
		s := filled([]api.Record{{Time: x.time, Key: "a", Dead: true}}, 1)
		s.Clean(1, x.now, x.grace)
		if gone := len(s.Segments()[0].Records) == 0; gone != x.gone {
			t.Errorf("P1502: Clean at %d, grace %d of a Time of %d: gone %v", x.now, x.grace, x.time, gone)
		}
	}
}

// TestP1502CleanWithARemoteOne looks that no dead one goes, that no Remote one is turned, and that its records take none with them.
func TestP1502CleanWithARemoteOne(t *testing.T) {
	s := keyed()
	offloads(t, s)
	was := s.Segments()[0]
	s.Clean(100, 1000, 0)
	is(t, s, "0-3 sr 0 30; 3-6 sc 1 60,4; 6-8 sc 0 80,6,7; 8-9  0 0,8")
	if got := s.Segments()[0]; !alike([]api.Segment{got}, []api.Segment{was}) {
		t.Errorf("P1502: the Remote one is %+v, was %+v", got, was)
	}
	offloads(t, s)
	offloads(t, s)
	for _, point := range numbers() {
		s.Clean(point, 1000, 0)
		is(t, s, "0-3 sr 0 30; 3-6 scr 1 60; 6-8 scr 0 80; 8-9  0 0,8")
	}
	// When the Remote ones are gone the dead ones go.
	s = keyed()
	offloads(t, s)
	s.Retain(api.Conf{Age: 1}, 32)
	s.Clean(100, 1000, 0)
	is(t, s, "3-6 sc 1 60,4; 6-8 sc 1 80,7; 8-9  0 0,8")
}

// TestP1502CleanSizes looks at the Sizes of what stays, down to none.
func TestP1502CleanSizes(t *testing.T) {
	s := keyed()
	was := s.Segments()
	s.Clean(100, 1000, 0)
	for i, want := range []int{0, len(slowBytes(was[1].Records[1:2])), len(slowBytes(was[2].Records[1:])), was[3].Size} {
		if got := s.Segments()[i].Size; got != want {
			t.Errorf("P1502: Size %d of segment %d, want %d", got, i, want)
		}
	}
	made(t, s.Segments())
	// A segment without records is found, and may be sent away.
	if g, ok := s.Find(1); !ok || g.Next != 3 || len(g.Records) != 0 {
		t.Errorf("P1501: Find: %+v, %v", g, ok)
	}
	if e := s.Offload(0, 1, 0, 0); e != api.OK {
		t.Errorf("P1503: Offload: %v", e)
	}
}

// TestP1502CleanKeepsWhatItFoldsTo holds what the keys come to, ahead and behind.
func TestP1502CleanKeepsWhatItFoldsTo(t *testing.T) {
	fold := func(s *Log) map[string]string {
		m := map[string]string{}
		for _, g := range s.Segments() {
			for _, r := range g.Records {
				if m[r.Key] = r.Value; r.Dead {
					delete(m, r.Key)
				}
			}
		}
		return m
	}
	for seed := range 2000 {
		p := &picker{x: uint32(seed)}
		s := New()
		for range 4 {
			s.Append(p.records(8), 1+p.pick(5))
		}
		want := fold(s)
		for range 3 {
			s.Clean(p.pick(30), p.pick(60), p.pick(20)-5)
			got := fold(s)
			if len(got) != len(want) {
				t.Fatalf("P1502: seed %d: %v, want %v", seed, got, want)
			}
			for key, value := range want {
				if v, ok := got[key]; !ok || v != value {
					t.Fatalf("P1502: seed %d: %v, want %v", seed, got, want)
				}
			}
		}
	}
}

func TestP1502Retain(t *testing.T) {
	// Each segment of two records of one size, the active one of one.
	l := times(5, 1, 2, 9, 4, 3, 8)
	one := len(slowBytes([]api.Record{{Offset: 1, Time: 5, Key: "k0", Value: "v"}}))
	const all = "0-2 s 0 5,0,1; 2-4 s 0 9,2,3; 4-6 s 0 4,4,5; 6-7  0 0,6"
	const three = "2-4 s 0 9,2,3; 4-6 s 0 4,4,5; 6-7  0 0,6"
	const two = "4-6 s 0 4,4,5; 6-7  0 0,6"
	const last = "6-7  0 0,6"
	for _, x := range []struct {
		age, keep, now int
		want           string
	}{
		{0, 0, 1000, all}, {-1, -1, math.MaxInt, all}, {math.MinInt, math.MinInt, math.MaxInt, all},
		{3, 0, 8, all}, {3, 0, 9, three}, {3, 0, 12, three}, {3, 0, 13, last}, {1, 0, math.MaxInt, last}, {1, 0, math.MinInt, all},
		{math.MaxInt, 0, math.MaxInt, all}, {1, 0, 6, all},
		{0, 7 * one, 0, all}, {0, 7*one - 1, 0, three}, {0, 5 * one, 0, three}, {0, 5*one - 1, 0, two}, {0, 3 * one, 0, two},
		{0, 3*one - 1, 0, last}, {0, one, 0, last}, {0, one - 1, 0, last}, {0, 1, 0, last}, {0, math.MaxInt, 0, all},
		{3, 5 * one, 9, three}, {3, 3 * one, 9, last}, {3, 3 * one, 7, two}, {3, 3*one - 1, 12, last}, {3, 7*one - 1, 13, last},
	} {
		s := filled(l, 2)
		is(t, s, all)
		for range 2 {
			s.Retain(api.Conf{Segment: 9, Age: x.age, Keep: x.keep, Grace: 3}, x.now)
			is(t, s, x.want)
		}
		if s.High() != 7 || s.Low() != int(x.want[0]-'0') {
			t.Errorf("P1502: Low %d, High %d", s.Low(), s.High())
		}
	}
}

// TestP1502RetainNeverTheActiveOne has logs of an active segment alone, and of none of whose segments anything is wanted.
func TestP1502RetainNeverTheActiveOne(t *testing.T) {
	for _, l := range [][]api.Segment{{{}}, {{Base: 5, Next: 9}}, {fit(api.Segment{Base: 5, Next: 9, Records: at(6, 7)})}} {
		s := made(t, l)
		for range 3 {
			s.Retain(api.Conf{Age: 1, Keep: 1}, math.MaxInt)
			if got := s.Segments(); !alike(got, l) {
				t.Fatalf("P1502: Retain of %q left %q", tell(l), tell(got))
			}
		}
	}
	s := made(t, five())
	s.Retain(api.Conf{Age: 1, Keep: 1}, math.MaxInt)
	if got := s.Segments(); !alike(got, five()[4:]) {
		t.Fatalf("P1502: Retain left %q", tell(got))
	}
	if n := s.Append(times(7), 4); n != 15 {
		t.Errorf("P1501: Append: %d", n)
	}
	is(t, s, "12-16 s 5 7,12,14,15; 16-16  0 0")
}

// TestP1502RetainCountsRemoteOnes has the Sizes of Remote segments, which are those that were told.
func TestP1502RetainCountsRemoteOnes(t *testing.T) {
	l := five()
	here := l[2].Size + l[4].Size
	for _, x := range []struct{ keep, left int }{
		{here + 40, 5}, {here + 39, 4}, {here, 4}, {here - 1, 2}, {l[4].Size, 2}, {l[4].Size - 1, 1},
	} {
		s := made(t, five())
		s.Retain(api.Conf{Keep: x.keep}, 0)
		if got := s.Segments(); !alike(got, l[5-x.left:]) {
			t.Errorf("P1502: Retain with Keep %d left %q", x.keep, tell(got))
		}
	}
	// What goes is what stands first, though a later one is as old.
	s := made(t, five())
	s.Retain(api.Conf{Age: 5}, 8)
	if got := s.Segments(); !alike(got, l) {
		t.Errorf("P1502: Retain left %q", tell(got))
	}
	s.Retain(api.Conf{Age: 5}, 15)
	if got := s.Segments(); !alike(got, l[4:]) {
		t.Errorf("P1502: Retain left %q", tell(got))
	}
}
