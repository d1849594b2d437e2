package segs

import (
	"reflect"
	"slices"
	"strings"
	"sync"
	"testing"
	"unsafe"

	"cooperage/api"
)

// act is something that is done to a log.
type act struct {
	name string
	do   func(s *Log)
}

// acts are one of each call that may turn a log; each turns mixed(t).
func acts(t *testing.T) []act {
	return []act{
		{"Append", func(s *Log) { s.Append(row("a=7 x=1 b"), 3) }},
		{"Append of one", func(s *Log) { s.Append(row("y=1"), 100) }},
		{"Seal", func(s *Log) { s.Seal() }},
		{"Clean", func(s *Log) { s.Clean(100, 1000, 0) }},
		{"Retain", func(s *Log) { s.Retain(api.Conf{Age: 1}, 1000) }},
		{"Retain of one", func(s *Log) { s.Retain(api.Conf{Age: 1}, 22) }},
		{"Merge", func(s *Log) { s.Merge(4) }},
		{"Offload", func(s *Log) {
			if n := s.away(); n < len(s.sealed) {
				offloads(t, s)
			}
		}},
	}
}

// mixed is a log with a Remote segment, three sealed ones and an active one.
func mixed(t *testing.T) *Log {
	s := filled(row("a=1 b=1 a=2 b=2 a=3 c=1 c b=3 d=1"), 2)
	offloads(t, s)
	return s
}

const mixed9 = "0-2 sr 0 20; 2-4 s 0 40,2,3; 4-6 s 0 60,4,5; 6-8 s 0 80,6,7; 8-9  0 0,8"

// frozen answers l with all that it points to in memory of its own.
func frozen(l []api.Segment) []api.Segment {
	l = slices.Clone(l)
	for i := range l {
		l[i].Records = slices.Clone(l[i].Records)
	}
	return l
}

// stays fails if the segments of s are not l, down to each record.
func stays(t *testing.T, s *Log, l []api.Segment, why string) {
	t.Helper()
	if got := s.Segments(); !alike(got, l) {
		t.Fatalf("P1504: %s: %+v, want %+v", why, got, l)
	}
	if s.Low() != l[0].Base || s.High() != l[len(l)-1].Next {
		t.Fatalf("P1504: %s: Low %d, High %d", why, s.Low(), s.High())
	}
	for _, g := range l {
		for n := g.Base; n < g.Next; n++ {
			if h, ok := s.Find(n); !ok || !alike([]api.Segment{h}, []api.Segment{g}) {
				t.Fatalf("P1504: %s: Find %d: %+v", why, n, h)
			}
		}
	}
}

// wreck writes over all that l has, its spare room too, and appends to it.
func wreck(l []api.Segment) {
	for i := range l {
		wreckRecords(l[i].Records)
	}
	bad := api.Segment{Base: 99, Next: -1, Gen: -1, Size: -1, Remote: true, Records: at(5)}
	_ = append(l, bad)
	l = l[:cap(l)]
	for i := range l {
		l[i] = bad
	}
}

func wreckRecords(l []api.Record) {
	bad := api.Record{Offset: -9, Time: -9, Key: "bad", Dead: true}
	_ = append(l, bad, bad, bad)
	l = l[:cap(l)]
	for i := range l {
		l[i] = bad
	}
}

// TestP1504ActsTurn holds that each act turns the log that the other tests use, or they would show nothing.
func TestP1504ActsTurn(t *testing.T) {
	is(t, mixed(t), mixed9)
	for _, x := range acts(t) {
		s := mixed(t)
		x.do(s)
		if got := s.Segments(); alike(got, mixed(t).Segments()) {
			t.Errorf("%s turns nothing", x.name)
		}
		if New().Low() != 0 || New().High() != 0 {
			t.Errorf("P1504: %s of another log turned a new one", x.name)
		}
	}
}

// TestP1504SegmentsAreNewMemory writes over what was told, of a log in each state.
func TestP1504SegmentsAreNewMemory(t *testing.T) {
	for _, x := range acts(t) {
		for _, y := range acts(t) {
			s := mixed(t)
			x.do(s)
			was := frozen(s.Segments())
			for range 3 {
				one, two := s.Segments(), s.Segments()
				wreck(one)
				if !alike(two, was) {
					t.Fatalf("P1504: %s: two answers have memory in common: %+v", x.name, two)
				}
				stays(t, s, was, x.name+", Segments written over")
			}
			// What was told stays, whatever the log is told.
			told := s.Segments()
			y.do(s)
			s.Append(row("m=1 n=1 o=1"), 2)
			if !alike(told, was) {
				t.Fatalf("P1504: %s, %s: what was told is now %+v", x.name, y.name, told)
			}
			// Nor does the log heed what is written there later.
			was = frozen(s.Segments())
			wreck(told)
			stays(t, s, was, x.name+", "+y.name+", an earlier answer written over")
		}
	}
}

// TestP1504FindIsNewMemory does the same with what Find told.
func TestP1504FindIsNewMemory(t *testing.T) {
	for _, x := range acts(t) {
		for _, y := range acts(t) {
			s := mixed(t)
			x.do(s)
			was := frozen(s.Segments())
			for n := s.Low(); n < s.High(); n++ {
				one, _ := s.Find(n)
				two, _ := s.Find(n)
				keep := frozen([]api.Segment{two})
				wreckRecords(one.Records)
				if !alike([]api.Segment{two}, keep) {
					t.Fatalf("P1504: %s: two answers have memory in common: %+v", x.name, two)
				}
				stays(t, s, was, x.name+", what Find told written over")
				c := s.Copy()
				three, _ := c.Find(n)
				y.do(c)
				c.Append(row("m=1 n=1 o=1"), 2)
				if !alike([]api.Segment{three}, keep) {
					t.Fatalf("P1504: %s, %s: what Find told is now %+v", x.name, y.name, three)
				}
			}
		}
	}
}

// TestP1504NothingBehind has logs and segments that have no records: there is nothing to write to behind those either.
func TestP1504NothingBehind(t *testing.T) {
	s := New()
	wreck(s.Segments())
	is(t, s, "0-0  0 0")
	s.Append(row("a=1 a=2"), 2)
	g, _ := s.Find(0)
	_ = append(g.Records[:0], at(9, 9, 9)...)
	l := s.Segments()
	_ = append(l[1].Records, at(9, 9)...)
	s.Clean(9, 0, 0)
	g, _ = s.Find(0)
	_ = append(g.Records, at(9, 9)...)
	is(t, s, "0-2 sc 1 20,1; 2-2  0 0")
	s.Append(row("b=1"), 2)
	is(t, s, "0-2 sc 1 20,1; 2-3  0 0,2")
}

// TestP1504Copy lets the log and its copy each go its own way, in both orders.
func TestP1504Copy(t *testing.T) {
	for _, x := range acts(t) {
		for _, y := range acts(t) {
			s := mixed(t)
			x.do(s)
			was := frozen(s.Segments())
			c := s.Copy()
			stays(t, c, was, x.name+": a copy")
			y.do(c)
			c.Append(row("m=1 n=1 o=1"), 2)
			stays(t, s, was, x.name+", then "+y.name+" of the copy")
			gone := frozen(c.Segments())
			y.do(s)
			s.Append(row("q=1 r=1"), 1)
			stays(t, c, gone, x.name+", then "+y.name+" of what was copied")
			// A copy of a copy is another one.
			d := c.Copy()
			y.do(c)
			c.Append(row("q=1 r=1"), 1)
			stays(t, d, gone, x.name+", then "+y.name+" of a copy that was copied")
		}
	}
}

// TestP1504MergeOfCopies merges different segments behind the same one: none writes where another one's records stand.
func TestP1504MergeOfCopies(t *testing.T) {
	for count := 1; count < 10; count++ {
		s := filled(times(make([]int, count)...), count)
		s.Append(row("y=1 y=2 z=1"), 1)
		c := s.Copy()
		merges(t, s, count+1, true)
		was := frozen(s.Segments())
		c.Clean(100, 0, 0)
		merges(t, c, count, true)
		merges(t, c, count+1, true)
		stays(t, s, was, "Merge of a copy")
		if got := c.Segments()[0].Records; len(got) != count+1 || got[count].Value != "2" {
			t.Errorf("P1504: %+v", got)
		}
	}
}

// TestP1504CopyIsAlike holds that a copy answers all as the log does, and the records' room behind it is its own.
func TestP1504CopyIsAlike(t *testing.T) {
	s := New()
	for i := range 30 {
		s.Append(times(i), 100)
		c, d := s.Copy(), s.Copy()
		c.Append(row("c=1"), 100)
		d.Append(row("d=1"), 100)
		for _, x := range []struct {
			log *Log
			key string
		}{{c, "c"}, {d, "d"}} {
			g, _ := x.log.Find(i + 1)
			if len(g.Records) != i+2 || g.Records[i+1].Key != x.key {
				t.Fatalf("P1504: %+v", g.Records)
			}
		}
		if s.High() != i+1 {
			t.Fatalf("P1504: High %d", s.High())
		}
	}
	n, m := proof(s.Segments()[0])
	s.Seal()
	for range 3 {
		c := s.Copy()
		if e := c.Offload(0, 0, n, m); e != api.OK {
			t.Errorf("P1503: Offload of a copy: %v", e)
		}
		if e := c.Offload(0, 0, n, m); e != api.ErrNone {
			t.Errorf("P1503: Offload of a copy once more: %v", e)
		}
	}
}

// roomy is l in lists with room behind them.
func roomy(l []api.Segment) []api.Segment {
	out := make([]api.Segment, 0, len(l)+5)
	for _, g := range l {
		list := make([]api.Record, 0, len(g.Records)+5)
		g.Records = append(list, g.Records...)
		out = append(out, g)
	}
	return out
}

// spare answers all the memory of l, its room too.
func spare(l []api.Segment) [][]api.Record {
	var out [][]api.Record
	for _, g := range l[:cap(l)] {
		out = append(out, slices.Clone(g.Records[:cap(g.Records)]))
	}
	return out
}

// TestP1504OfKeepsNothing looks that Of turns nothing of what it was handed, and keeps none of it.
func TestP1504OfKeepsNothing(t *testing.T) {
	for _, x := range acts(t) {
		l := roomy(mixed(t).Segments())
		was, room := frozen(l[:cap(l)]), spare(l)
		one, two := made(t, l), made(t, l)
		x.do(one)
		one.Append(row("m=1 n=1 o=1"), 2)
		stays(t, two, was[:len(l)], x.name+" of a log of the same list")
		if !reflect.DeepEqual(frozen(l[:cap(l)]), was) || !reflect.DeepEqual(spare(l), room) {
			t.Fatalf("P1504: %s of a log turned what it was made of: %+v", x.name, l[:cap(l)])
		}
		gone := frozen(one.Segments())
		wreck(l)
		stays(t, one, gone, x.name+", then what it was made of written over")
		stays(t, two, was[:len(room)-5], "what it was made of written over")
	}
	// Nor does it turn what it takes not.
	l := roomy(mixed(t).Segments())
	l[0].Sum, l[2].Size = 9, 9
	was, room := frozen(l[:cap(l)]), spare(l)
	if s, ok := Of(l); ok || s != nil {
		t.Errorf("P1501: Of %q", tell(l))
	}
	if !reflect.DeepEqual(frozen(l[:cap(l)]), was) || !reflect.DeepEqual(spare(l), room) {
		t.Errorf("P1504: Of turned what it was handed: %+v", l)
	}
}

// TestP1504AppendKeepsNothing looks that Append turns nothing of what it was handed, and keeps none of it.
func TestP1504AppendKeepsNothing(t *testing.T) {
	for _, most := range []int{1, 2, 3, 100} {
		l := append(make([]api.Record, 0, 9), row("a=1 b c=1")...)
		l = append(l, api.Record{Offset: 4}, api.Record{Offset: 6, Key: "d", Time: 5})
		was := slices.Clone(l[:cap(l)])
		s := New()
		for range 3 {
			s.Append(l, most)
			if !slices.Equal(l[:cap(l)], was) {
				t.Fatalf("P1504: Append turned what it was handed: %+v", l)
			}
		}
		s.Seal()
		s.Clean(100, 1000, 0)
		s.Merge(5)
		if !slices.Equal(l[:cap(l)], was) {
			t.Fatalf("P1504: a log turned what was appended to it: %+v", l)
		}
		told := frozen(s.Segments())
		wreckRecords(l)
		stays(t, s, told, "what was appended written over")
	}
}

// within tells whether s is a piece of text.
func within(s, text string) bool {
	from, at := uintptr(unsafe.Pointer(unsafe.StringData(text))), uintptr(unsafe.Pointer(unsafe.StringData(s)))
	return at >= from && at < from+uintptr(len(text))
}

// TestP1504TextsAreNotKept looks whether a text that was handed in, a piece of a great one, is kept with all of that.
func TestP1504TextsAreNotKept(t *testing.T) {
	text := strings.Repeat("orders-", 1000)
	l := []api.Record{{Key: text[:6], Value: text[7:13]}, {Offset: 1, Key: text[14:17], Value: text[1:2]}}
	made := made(t, []api.Segment{
		fit(api.Segment{Next: 2, Sealed: true, Records: l}),
		{Base: 2, Next: 2},
	})
	made.Append(l, 9)
	for _, s := range []*Log{made, filled(l, 1), filled(l, 9)} {
		for _, g := range s.Segments() {
			for i, r := range g.Records {
				if within(r.Key, text) || within(r.Value, text) {
					t.Errorf("P1504: record %d of %q is a piece of what was handed in", i, tell([]api.Segment{g}))
				}
				if !strings.HasPrefix("orders", r.Key) {
					t.Errorf("P1501: Key %q", r.Key)
				}
			}
		}
	}
}

// TestP1504TheSameTwice plays twice by each seed.
func TestP1504TheSameTwice(t *testing.T) {
	for seed := range 50 {
		a, b := &picker{x: uint32(seed)}, &picker{x: uint32(seed)}
		p, q := newPair(), newPair()
		for range 20 {
			p.one(t, a)
			q.one(t, b)
			if one, two := p.log.Segments(), q.log.Segments(); !alike(one, two) {
				t.Fatalf("P1504: seed %d: %+v, and then %+v", seed, one, two)
			}
		}
	}
}

// TestP1504ManyAtOnce has many logs told at once, and one of them asked by many.
func TestP1504ManyAtOnce(t *testing.T) {
	const many = 8
	one := mixed(t)
	// Now there is room behind its list of segments, which those that ask must not write to.
	one.Retain(api.Conf{Age: 1}, 22)
	was := frozen(one.Segments())
	logs := make([]*Log, many)
	var all sync.WaitGroup
	for i := range many {
		all.Go(func() {
			s := New()
			for k := range 200 {
				s.Append(times(i, k, i+k), 4)
				s.Clean(k, 10, 0)
				s.Merge(6)
				if k%10 == 0 {
					c := one.Copy()
					c.Append(times(k), 1)
					c.Merge(100)
					one.Find(k)
					wreck(one.Segments())
				}
			}
			logs[i] = s
		})
	}
	all.Wait()
	stays(t, one, was, "asked by many at once")
	for i, s := range logs {
		want := New()
		for k := range 200 {
			want.Append(times(i, k, i+k), 4)
			want.Clean(k, 10, 0)
			want.Merge(6)
		}
		stays(t, s, want.Segments(), "one of many at once")
	}
}

// TestP1504AskingTurnsNothing asks a log all, over and over.
func TestP1504AskingTurnsNothing(t *testing.T) {
	s := mixed(t)
	was := frozen(s.Segments())
	for range 3 {
		for _, n := range numbers() {
			s.Find(n)
			s.Offload(n, n, n, uint32(n))
			s.Offload(2, 0, n, uint32(n))
			s.Append(nil, n)
			s.Append([]api.Record{{}, {Offset: n}}, n)
			s.Merge(min(n, 3))
			s.Retain(api.Conf{Age: min(n, 0), Keep: min(n, 0)}, n)
		}
		s.Copy()
		stays(t, s, was, "asked")
	}
}
