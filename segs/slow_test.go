package segs

import (
	"encoding/binary"
	"hash/crc32"
	"math"
	"reflect"
	"slices"
	"sort"
	"strconv"
	"strings"
	"testing"

	"cooperage/api"
	"cooperage/clean"
	"cooperage/record"
	"cooperage/retain"
)

// slow is a second log: its records in one list, and beside it its segments without Records.
type slow struct {
	records []api.Record
	list    []api.Segment
}

func newSlow() *slow { return &slow{list: []api.Segment{{}}} }

func (s *slow) copy() *slow {
	return &slow{slices.Clone(s.records), slices.Clone(s.list)}
}

// slowBytes are a segment's bytes, by the library's numbers and sums.
func slowBytes(l []api.Record) []byte {
	var out []byte
	for _, r := range l {
		if b := record.Put(nil, r); len(b) > 0 {
			out = binary.AppendUvarint(out, uint64(len(b)))
			out = binary.BigEndian.AppendUint32(out, crc32.ChecksumIEEE(b))
			out = append(out, b...)
		}
	}
	return out
}

// segments are all segments, with the records that stand in them.
func (s *slow) segments() []api.Segment {
	l := slices.Clone(s.list)
	for i := range l {
		g := &l[i]
		if g.Remote {
			continue
		}
		for _, r := range s.records {
			if r.Offset >= g.Base && r.Offset < g.Next {
				g.Records = append(g.Records, r)
			}
		}
		g.Size = len(slowBytes(g.Records))
	}
	return l
}

func (s *slow) low() int  { return s.list[0].Base }
func (s *slow) high() int { return s.list[len(s.list)-1].Next }

func (s *slow) append(l []api.Record, most int) int {
	firsts := []int{}
	for _, r := range l {
		r.Offset = 0
		if !record.Right(r) {
			continue
		}
		r.Offset = s.high()
		firsts = append(firsts, r.Offset)
		s.records = append(s.records, r)
		last := &s.list[len(s.list)-1]
		last.Next++
		if most < 1 || last.Next-last.Base >= most {
			s.seal()
		}
	}
	return append(firsts, s.high())[0]
}

func (s *slow) seal() {
	last := s.segments()[len(s.list)-1]
	if last.Base >= last.Next {
		return
	}
	times := []int{}
	for _, r := range last.Records {
		times = append(times, r.Time)
	}
	if len(times) == 0 {
		times = []int{0}
	}
	sort.Ints(times)
	g := &s.list[len(s.list)-1]
	g.Sealed, g.Time = true, times[len(times)-1]
	s.list = append(s.list, api.Segment{Base: last.Next, Next: last.Next})
}

func (s *slow) find(offset int) (api.Segment, bool) {
	if offset < s.low() {
		return api.Segment{}, false
	}
	for _, g := range s.segments() {
		if g.Next > offset {
			return g, true
		}
	}
	return api.Segment{}, false
}

func (s *slow) clean(point, now, grace int) {
	if base := s.list[len(s.list)-1].Base; point > base {
		point = base
	}
	dead := true
	for _, g := range s.list {
		dead = dead && !g.Remote
	}
	was := s.segments()
	// No Remote segment has records: these are all that there are.
	s.records = clean.Keep(s.records, point, now, grace, dead)
	for i, g := range s.segments() {
		if !g.Sealed || g.Remote {
			continue
		}
		if len(g.Records) < len(was[i].Records) {
			s.list[i].Gen++
		}
		if g.Next <= point {
			s.list[i].Clean = true
		}
	}
}

func (s *slow) retain(c api.Conf, now int) {
	s.list = s.list[retain.Drop(s.segments(), c, now):]
	s.records = slices.DeleteFunc(s.records, func(r api.Record) bool { return r.Offset < s.low() })
}

func (s *slow) merge(most int) bool {
	l := s.segments()
	for i := range l[1:] {
		a, b := l[i], l[i+1]
		if !a.Sealed || !b.Sealed || a.Remote || b.Remote || len(a.Records)+len(b.Records) > most {
			continue
		}
		one := api.Segment{Base: a.Base, Next: b.Next, Time: max(a.Time, b.Time), Gen: max(a.Gen, b.Gen) + 1, Sealed: true, Clean: a.Clean && b.Clean}
		s.list = slices.Concat(s.list[:i], []api.Segment{one}, s.list[i+2:])
		return true
	}
	return false
}

func (s *slow) offload(base, gen, size int, sum uint32) api.Errno {
	ahead := 0 // how many that are not Remote
	for i, g := range s.segments() {
		if !g.Sealed || g.Remote {
			continue
		}
		if g.Base == base && g.Gen == gen {
			b := slowBytes(g.Records)
			if ahead > 0 || size != len(b) || sum != crc32.ChecksumIEEE(b) {
				return api.ErrArg
			}
			s.list[i].Remote, s.list[i].Size, s.list[i].Sum = true, size, sum
			s.records = slices.DeleteFunc(s.records, func(r api.Record) bool { return r.Offset < g.Next })
			return api.OK
		}
		ahead++
	}
	return api.ErrNone
}

// slowOf says P1501's sentence of what Of takes.
func slowOf(l []api.Segment) bool {
	all := len(l) > 0
	for i, g := range l {
		active := i == len(l)-1
		for _, ok := range []bool{
			i == 0 || g.Base == l[i-1].Next,
			i == 0 || l[i-1].Remote || !g.Remote,
			!active || !g.Sealed && !g.Remote && !g.Clean,
			!active || g.Time == 0,
			active || g.Sealed,
			g.Base >= 0,
			g.Base <= g.Next,
			!g.Sealed || g.Base < g.Next,
			g.Next <= 1<<50,
			g.Gen >= 0,
			g.Size >= 0,
			g.Time >= -1<<40 && g.Time <= 1<<40,
			!g.Remote || len(g.Records) == 0,
			g.Remote || g.Size == len(slowBytes(g.Records)),
			g.Remote || g.Sum == 0,
		} {
			all = all && ok
		}
		for k, r := range g.Records {
			all = all && record.Right(r) && r.Offset >= g.Base && r.Offset < g.Next
			all = all && (k == 0 || r.Offset > g.Records[k-1].Offset)
		}
	}
	return all
}

// plain is l without a difference between no list and an empty one.
func plain(l []api.Segment) []api.Segment {
	l = slices.Clone(l)
	for i := range l {
		if len(l[i].Records) == 0 {
			l[i].Records = nil
		}
	}
	return l
}

// alike tells whether two lists of segments have the same of all.
func alike(a, b []api.Segment) bool {
	return len(a) == len(b) && (len(a) == 0 || reflect.DeepEqual(plain(a), plain(b)))
}

// tell is l in few words: Base, Next, s(ealed), c(lean) and r(emote), Gen, Time and the Offsets of the Records.
func tell(l []api.Segment) string {
	words := []string{}
	for _, g := range l {
		w := strconv.Itoa(g.Base) + "-" + strconv.Itoa(g.Next) + " "
		for i, ok := range []bool{g.Sealed, g.Clean, g.Remote} {
			if ok {
				w += "scr"[i : i+1]
			}
		}
		w += " " + strconv.Itoa(g.Gen) + " " + strconv.Itoa(g.Time)
		for _, r := range g.Records {
			w += "," + strconv.Itoa(r.Offset)
		}
		words = append(words, w)
	}
	return strings.Join(words, "; ")
}

// is fails if the segments of s are not those of want, in the words of tell, or have other Sizes and Sums than theirs.
func is(t *testing.T, s *Log, want string) {
	t.Helper()
	l := s.Segments()
	if got := tell(l); got != want {
		t.Fatalf("%q, want %q", got, want)
	}
	for _, g := range l {
		if !g.Remote && (g.Size != len(slowBytes(g.Records)) || g.Sum != 0) {
			t.Fatalf("%q: Size %d, Sum %d", tell([]api.Segment{g}), g.Size, g.Sum)
		}
	}
}

// isSlow fails if s tells something else than the second log.
func isSlow(t *testing.T, s *Log, want *slow, why string) {
	t.Helper()
	l := want.segments()
	if got := s.Segments(); !alike(got, l) {
		t.Fatalf("%s: %q, want %q\n%+v\n%+v", why, tell(got), tell(l), got, l)
	}
	if s.Low() != want.low() || s.High() != want.high() {
		t.Fatalf("%s: %q: Low %d, High %d", why, tell(l), s.Low(), s.High())
	}
}

// finds fails if Find tells something else than the second log's.
func finds(t *testing.T, s *Log, want *slow, offset int) {
	t.Helper()
	g, ok := s.Find(offset)
	h, found := want.find(offset)
	if ok != found || !alike([]api.Segment{g}, []api.Segment{h}) {
		t.Fatalf("P1501: Find %d in %q: %+v, %v", offset, tell(want.segments()), g, ok)
	}
}

// row makes a list of words: "a=v" is a Value, "a" is Dead; Times are 10, 20, 30 .., and no Offset means anything.
func row(s string) []api.Record {
	l := []api.Record{}
	for i, w := range strings.Fields(s) {
		key, value, ok := strings.Cut(w, "=")
		l = append(l, api.Record{Offset: 77 - i, Time: 10 * (i + 1), Key: key, Value: value, Dead: !ok})
	}
	return l
}

// times makes records of these Times.
func times(list ...int) []api.Record {
	l := []api.Record{}
	for i, n := range list {
		l = append(l, api.Record{Offset: 5, Time: n, Key: "k" + strconv.Itoa(i), Value: "v"})
	}
	return l
}

// filled is a log that these records were appended to.
func filled(l []api.Record, most int) *Log {
	s := New()
	s.Append(l, most)
	return s
}

// made is the log of l.
func made(t *testing.T, l []api.Segment) *Log {
	t.Helper()
	s, ok := Of(l)
	if !ok {
		t.Fatalf("P1501: Of %q: false", tell(l))
	}
	return s
}

// proof is what Offload wants to know of a segment.
func proof(g api.Segment) (int, uint32) {
	b := slowBytes(g.Records)
	return len(b), crc32.ChecksumIEEE(b)
}

// offloads fails if s does not let go of its next segment.
func offloads(t *testing.T, s *Log) {
	t.Helper()
	for _, g := range s.Segments() {
		if g.Remote {
			continue
		}
		size, sum := proof(g)
		if e := s.Offload(g.Base, g.Gen, size, sum); e != api.OK {
			t.Fatalf("P1503: Offload %d, %d: %v", g.Base, g.Gen, e)
		}
		return
	}
}

// numbers are ints at the edges, and those about 0.
func numbers() []int {
	return []int{
		math.MinInt, math.MinInt + 1, math.MinInt/2 - 1, math.MinInt / 2, -1 << 50, -api.MaxTime - 1, -api.MaxTime, math.MinInt32, -2, -1,
		0, 1, 2, 3, 4, 5, 6, 7, 8, 9, math.MaxUint32 + 1, api.MaxTime - 1, api.MaxTime, api.MaxTime + 1,
		1<<50 - 1, 1 << 50, 1<<50 + 1, math.MaxInt / 2, math.MaxInt/2 + 1, math.MaxInt - 1, math.MaxInt,
	}
}

// picker picks numbers by a seed alone.
type picker struct{ x uint32 }

func (p *picker) pick(n int) int {
	p.x = p.x*1664525 + 1013904223
	return int(p.x>>16) % n
}

// records are up to count ones of few keys, and some that are not right.
func (p *picker) records(count int) []api.Record {
	l := []api.Record{}
	for range p.pick(count + 1) {
		r := api.Record{Offset: p.pick(20) - 5, Time: p.pick(40) - 10, Key: string(rune('a' + p.pick(4))), Dead: p.pick(4) == 0}
		if !r.Dead {
			r.Value = strings.Repeat("v", p.pick(200))
		}
		switch p.pick(12) {
		case 0:
			r.Key = ""
		case 1:
			r.Time = api.MaxTime + 1
		case 2:
			r.Offset = math.MinInt
		}
		l = append(l, r)
	}
	return l
}
