package segs

import (
	"math"
	"slices"
	"strings"
	"testing"

	"cooperage/api"
)

// at are live records at these Offsets.
func at(offsets ...int) []api.Record {
	l := []api.Record{}
	for _, n := range offsets {
		l = append(l, api.Record{Offset: n, Time: 3, Key: "k", Value: "v"})
	}
	return l
}

// fit answers g with the Size of its Records.
func fit(g api.Segment) api.Segment {
	g.Size = len(slowBytes(g.Records))
	return g
}

// five are right segments: two that are Remote, two that are not, and the active one.
func five() []api.Segment {
	return []api.Segment{
		{Base: 2, Next: 4, Time: 9, Gen: 1, Sealed: true, Clean: true, Remote: true, Size: 40, Sum: 7},
		{Base: 4, Next: 5, Sealed: true, Remote: true},
		fit(api.Segment{Base: 5, Next: 9, Time: -4, Gen: 2, Sealed: true, Clean: true, Records: at(6, 8)}),
		{Base: 9, Next: 12, Time: 3, Sealed: true},
		fit(api.Segment{Base: 12, Next: 15, Gen: 5, Records: at(12, 14)}),
	}
}

// ofs fails if Of takes l and should not, or the other way round, or makes another log of it.
func ofs(t *testing.T, l []api.Segment, want bool) {
	t.Helper()
	s, ok := Of(l)
	if ok != want || (s != nil) != want {
		t.Fatalf("P1501: Of %q: %v, want %v\n%+v", tell(l), ok, want, l)
	}
	if !ok {
		return
	}
	if got := s.Segments(); !alike(got, l) {
		t.Fatalf("P1501: Of %+v: %+v", l, got)
	}
	if s.Low() != l[0].Base || s.High() != l[len(l)-1].Next {
		t.Fatalf("P1501: Of %q: Low %d, High %d", tell(l), s.Low(), s.High())
	}
}

func ofsAsSlow(t *testing.T, l []api.Segment) {
	t.Helper()
	ofs(t, l, slowOf(l))
}

func TestP1501OfTakes(t *testing.T) {
	ofs(t, five(), true)
	// Each end of a log is one.
	for i := range 5 {
		ofs(t, five()[i:], true)
	}
	ofs(t, []api.Segment{{}}, true)
	ofs(t, []api.Segment{{Records: []api.Record{}}}, true)
	ofs(t, []api.Segment{{Base: 5, Next: 5}}, true)
	ofs(t, []api.Segment{{Base: 5, Next: 9}}, true)
	ofs(t, []api.Segment{{Base: 5, Next: 9, Gen: math.MaxInt}}, true)
	ofs(t, []api.Segment{{Base: 0, Next: 1 << 50}}, true)
	ofs(t, []api.Segment{{Base: 1 << 50, Next: 1 << 50}}, true)
	ofs(t, []api.Segment{fit(api.Segment{Base: 5, Next: 1 << 50, Records: at(5, 1<<50-1)})}, true)
	ofs(t, []api.Segment{{Next: 1, Sealed: true, Time: api.MaxTime, Gen: math.MaxInt, Size: 0}, {Base: 1, Next: 1}}, true)
	ofs(t, []api.Segment{{Next: 1, Sealed: true, Time: -api.MaxTime, Remote: true, Size: math.MaxInt, Sum: math.MaxUint32}, {Base: 1, Next: 1}}, true)
	ofs(t, []api.Segment{{Next: 1, Sealed: true, Remote: true, Records: []api.Record{}}, {Base: 1, Next: 1}}, true)
	// No Time need be that of a record.
	for _, time := range []int{-100, 0, 2, 4, 100} {
		ofs(t, []api.Segment{fit(api.Segment{Next: 5, Sealed: true, Time: time, Records: at(1, 2)}), {Base: 5, Next: 5}}, true)
	}
}

func TestP1501OfTakesNot(t *testing.T) {
	ofs(t, nil, false)
	ofs(t, []api.Segment{}, false)
	ofs(t, five()[:0], false)
	for n := 1; n < 5; n++ {
		ofs(t, five()[:n], false)
	}
	for n := 1; n < 4; n++ {
		ofs(t, slices.Delete(five(), n, n+1), false)
	}
	for i := range 5 {
		for k := range i {
			l := five()
			l[i], l[k] = l[k], l[i]
			ofs(t, l, false)
			ofs(t, slices.Insert(five(), k, five()[i]), false)
		}
		ofs(t, slices.Insert(five(), i, five()[i]), false)
	}
	ofs(t, []api.Segment{{}, {}}, false)
	ofs(t, append(five(), api.Segment{Base: 15, Next: 15}), false)
	ofs(t, []api.Segment{{Base: 4, Next: 4, Sealed: true}, {Base: 4, Next: 4}}, false)
	ofs(t, []api.Segment{{Base: 4, Next: 4, Sealed: true, Remote: true}, {Base: 4, Next: 4}}, false)
	ofs(t, []api.Segment{{Base: math.MaxInt, Next: math.MinInt}}, false)
	ofs(t, []api.Segment{{Base: math.MinInt, Next: math.MaxInt}}, false)
}

// turns are all single turns of a segment.
func turns() []func(g *api.Segment) {
	list := []func(g *api.Segment){
		func(g *api.Segment) { g.Sealed = !g.Sealed },
		func(g *api.Segment) { g.Clean = !g.Clean },
		func(g *api.Segment) { g.Remote = !g.Remote },
		func(g *api.Segment) { g.Remote, g.Records = true, nil },
		func(g *api.Segment) { g.Remote = false },
		func(g *api.Segment) { g.Sum++ },
		func(g *api.Segment) { g.Sum = math.MaxUint32 },
		func(g *api.Segment) { g.Size++ },
		func(g *api.Segment) { g.Size-- },
		func(g *api.Segment) { g.Base++ },
		func(g *api.Segment) { g.Base-- },
		func(g *api.Segment) { g.Next++ },
		func(g *api.Segment) { g.Next-- },
		func(g *api.Segment) { g.Base = g.Next },
		func(g *api.Segment) { g.Next = g.Base },
		func(g *api.Segment) { g.Records, g.Size = nil, 0 },
		func(g *api.Segment) { g.Records = nil },
		func(g *api.Segment) { slices.Reverse(g.Records) },
	}
	for _, n := range numbers() {
		list = append(list,
			func(g *api.Segment) { g.Base = n },
			func(g *api.Segment) { g.Next = n },
			func(g *api.Segment) { g.Base, g.Next = n, n },
			func(g *api.Segment) { g.Time = n },
			func(g *api.Segment) { g.Gen = n },
			func(g *api.Segment) { g.Size = n },
		)
	}
	return list
}

// TestP1501OfOneTurn turns each segment of a right log in each way, and all of them one by one in two.
func TestP1501OfOneTurn(t *testing.T) {
	for i := range 5 {
		for _, turn := range turns() {
			l := five()
			turn(&l[i])
			ofsAsSlow(t, l)
			one := l[i : i+1]
			ofsAsSlow(t, one)
			for k := range 5 {
				for _, other := range turns()[:18] {
					l := five()
					turn(&l[i])
					other(&l[k])
					ofsAsSlow(t, l)
				}
			}
		}
	}
}

// TestP1501OfFlags has up to 4 segments of 1 offset, or of none, with all flags.
func TestP1501OfFlags(t *testing.T) {
	right := 0
	var in func(l []api.Segment)
	in = func(l []api.Segment) {
		ofsAsSlow(t, l)
		if slowOf(l) {
			right++
		}
		if len(l) == 4 {
			return
		}
		for k := range 16 {
			g := api.Segment{Sealed: k&1 > 0, Clean: k&2 > 0, Remote: k&4 > 0}
			if len(l) > 0 {
				g.Base = l[len(l)-1].Next
			}
			g.Next = g.Base + k>>3
			in(append(slices.Clone(l), g))
		}
	}
	in(nil)
	// Of n sealed ones the first k are Remote (n + 1 ways), each is Clean or not, and the active one has an offset or none.
	if want := 2*1 + 2*2*2 + 2*4*3 + 2*8*4; right != want {
		t.Errorf("P1501: %d of the rows are right, want %d", right, want)
	}
}

// TestP1501OfRecords has one segment of up to 3 records in all orders, in the place of each one.
func TestP1501OfRecords(t *testing.T) {
	var in func(offsets []int)
	in = func(offsets []int) {
		for _, i := range []int{2, 3, 4} {
			l := five()
			l[i].Records = at(offsets...)
			for k := range offsets {
				l[i].Records[k].Offset += l[i].Base
			}
			l[i] = fit(l[i])
			ofsAsSlow(t, l)
		}
		if len(offsets) < 3 {
			for n := -2; n < 6; n++ {
				in(append(slices.Clone(offsets), n))
			}
		}
	}
	in(nil)
	for _, n := range numbers() {
		for _, m := range numbers() {
			ofsAsSlow(t, []api.Segment{fit(api.Segment{Base: 0, Next: 1 << 50, Records: at(n, m)})})
			ofsAsSlow(t, []api.Segment{fit(api.Segment{Base: 3, Next: 9, Records: at(n, m)})})
		}
	}
	// A Remote one has none, not even those that would be right.
	for i := range 2 {
		l := five()
		l[i].Records = at(l[i].Base)
		ofs(t, l, false)
		l[i] = fit(l[i])
		ofs(t, l, false)
		l[i].Sum = 0
		ofs(t, l, false)
		l[0].Remote, l[1].Remote = i > 0, false
		ofsAsSlow(t, l)
	}
}

// TestP1501OfWrongRecords has each segment's records but one right, with the Size of those that are.
func TestP1501OfWrongRecords(t *testing.T) {
	key, value := strings.Repeat("k", api.MaxKey), strings.Repeat("v", api.MaxValue)
	for _, x := range []struct {
		turn func(r *api.Record)
		ok   bool
	}{
		{func(r *api.Record) { r.Key = "" }, false},
		{func(r *api.Record) { r.Key = key }, true},
		{func(r *api.Record) { r.Key = key + "k" }, false},
		{func(r *api.Record) { r.Value = "" }, true},
		{func(r *api.Record) { r.Value = value }, true},
		{func(r *api.Record) { r.Value = value + "v" }, false},
		{func(r *api.Record) { r.Dead = true }, false},
		{func(r *api.Record) { r.Dead, r.Value = true, "" }, true},
		{func(r *api.Record) { r.Time = api.MaxTime }, true},
		{func(r *api.Record) { r.Time = api.MaxTime + 1 }, false},
		{func(r *api.Record) { r.Time = -api.MaxTime }, true},
		{func(r *api.Record) { r.Time = -api.MaxTime - 1 }, false},
		{func(r *api.Record) { r.Time = math.MinInt }, false},
		{func(r *api.Record) { r.Key, r.Value = "\xff\xfe", "\x00" }, true},
	} {
		for _, i := range []int{2, 4} {
			for k := range 2 {
				l := five()
				x.turn(&l[i].Records[k])
				l[i] = fit(l[i])
				ofs(t, l, x.ok)
				l[i].Size++
				ofs(t, l, false)
				l[i].Size -= 2
				ofs(t, l, false)
			}
		}
	}
}

// TestP1501OfGoesOn plays with logs that Of made: they go on as any other.
func TestP1501OfGoesOn(t *testing.T) {
	s := made(t, five())
	is(t, s, "2-4 scr 1 9; 4-5 sr 0 0; 5-9 sc 2 -4,6,8; 9-12 s 0 3; 12-15  5 0,12,14")
	if n := s.Append(times(1, 8, 2), 5); n != 15 {
		t.Errorf("P1501: Append: %d", n)
	}
	is(t, s, "2-4 scr 1 9; 4-5 sr 0 0; 5-9 sc 2 -4,6,8; 9-12 s 0 3; 12-17 s 5 8,12,14,15,16; 17-18  0 0,17")
	if !s.Merge(2) || s.Merge(5) || !s.Merge(6) {
		t.Error("P1503: Merge")
	}
	is(t, s, "2-4 scr 1 9; 4-5 sr 0 0; 5-17 s 6 8,6,8,12,14,15,16; 17-18  0 0,17")
	offloads(t, s)
	s.Retain(api.Conf{Keep: 1}, 0)
	is(t, s, "17-18  0 0,17")
}
