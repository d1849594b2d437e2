package segs

import (
	"math"
	"slices"
	"strconv"
	"testing"

	"cooperage/api"
)

// pair is a log and the second one, which are told the same.
type pair struct {
	log  *Log
	want *slow
}

func newPair() pair { return pair{New(), newSlow()} }

func (p pair) copy() pair { return pair{p.log.Copy(), p.want.copy()} }

// same fails if two answers are not alike.
func same(t *testing.T, got, want any, why string) {
	t.Helper()
	if got != want {
		t.Fatalf("%s: %v, want %v", why, got, want)
	}
}

// append tells both logs of l.
func (p pair) append(t *testing.T, l []api.Record, most int) {
	t.Helper()
	same(t, p.log.Append(l, most), p.want.append(l, most), "P1501: Append")
}

// offload offers both logs segment i, with each number off by what is told.
func (p pair) offload(t *testing.T, i, base, gen, size, sum int) api.Errno {
	t.Helper()
	l := p.want.segments()
	g := l[i%len(l)]
	n, m := proof(g)
	got := p.log.Offload(g.Base+base, g.Gen+gen, n+size, m+uint32(sum))
	same(t, got, p.want.offload(g.Base+base, g.Gen+gen, n+size, m+uint32(sum)), "P1503: Offload")
	return got
}

// check holds what both logs tell against one another, and that Of takes it.
func (p pair) check(t *testing.T, why string) {
	t.Helper()
	isSlow(t, p.log, p.want, why)
	if l := p.log.Segments(); !slowOf(l) {
		t.Fatalf("%s: %q is not what Of takes", why, tell(l))
	}
	ofs(t, p.log.Segments(), true)
}

// counts says how often each kind of thing came to pass.
type counts map[string]int

// note counts what was done if it was a turn: the segments are not those that they were.
func (c counts) note(s *Log, was []api.Segment, what string) {
	if alike(s.Segments(), was) {
		what += ", nothing"
	}
	c[what]++
}

// one does one thing that is picked to both logs, and answers what it was.
func (p pair) one(t *testing.T, k *picker) string {
	t.Helper()
	switch k.pick(8) {
	case 0, 1, 2:
		p.append(t, k.records(6), k.pick(7)-1)
		return "Append"
	case 3:
		p.log.Seal()
		p.want.seal()
		return "Seal"
	case 4:
		point, now, grace := k.pick(40)-3, k.pick(50), k.pick(20)-5
		p.log.Clean(point, now, grace)
		p.want.clean(point, now, grace)
		return "Clean"
	case 5:
		c := api.Conf{Age: k.pick(60) - 10, Keep: k.pick(9) * k.pick(400)}
		now := k.pick(60)
		p.log.Retain(c, now)
		p.want.retain(c, now)
		return "Retain"
	case 6:
		most := k.pick(12) - 1
		same(t, p.log.Merge(most), p.want.merge(most), "P1503: Merge")
		return "Merge"
	}
	off := [4]int{}
	if k.pick(3) == 0 {
		off[k.pick(4)] = k.pick(3) - 1
	}
	return "Offload " + strconv.Itoa(int(p.offload(t, k.pick(4), off[0], off[1], off[2], off[3])))
}

// TestP1501Play does what is picked by seeds to logs, their copies and what Of makes of them.
func TestP1501Play(t *testing.T) {
	seen := counts{}
	for seed := range 300 {
		k := &picker{x: uint32(seed)}
		p := newPair()
		for range 40 {
			was := p.log.Segments()
			seen.note(p.log, was, p.one(t, k))
			p.check(t, "seed "+strconv.Itoa(seed))
			finds(t, p.log, p.want, p.want.low()-2+k.pick(p.want.high()-p.want.low()+4))
			if k.pick(8) == 0 {
				p.log = made(t, p.log.Segments())
			}
			if k.pick(8) == 0 {
				p = p.branch(t, k)
			}
		}
		for _, n := range numbers() {
			finds(t, p.log, p.want, n)
		}
	}
	for _, what := range []string{
		"Append", "Append, nothing", "Seal", "Seal, nothing", "Clean", "Clean, nothing", "Retain", "Retain, nothing", "Merge", "Merge, nothing",
		"Offload " + strconv.Itoa(int(api.OK)),
		"Offload " + strconv.Itoa(int(api.ErrNone)) + ", nothing",
		"Offload " + strconv.Itoa(int(api.ErrArg)) + ", nothing",
	} {
		if seen[what] < 100 {
			t.Errorf("%s came to pass %d times", what, seen[what])
		}
		delete(seen, what)
	}
	if len(seen) > 0 {
		t.Errorf("P1503: more came to pass: %v", seen)
	}
}

// branch lets the log and a copy of it each go its own way, and answers one of them.
func (p pair) branch(t *testing.T, k *picker) pair {
	t.Helper()
	c := p.copy()
	for range 6 {
		c.one(t, k)
		p.check(t, "P1504: what was copied")
		p.one(t, k)
		c.check(t, "P1504: the copy")
	}
	if k.pick(2) == 0 {
		return c
	}
	return p
}

// steps are things that can be done to a log, each at its least.
func steps() []func(t *testing.T, p pair) {
	return []func(t *testing.T, p pair){
		func(t *testing.T, p pair) { p.append(t, row("a=1"), 2) },
		func(t *testing.T, p pair) { p.append(t, row("b a"), 3) },
		func(t *testing.T, p pair) { p.append(t, row("a=2 b=3 a=4"), 2) },
		func(_ *testing.T, p pair) {
			p.log.Seal()
			p.want.seal()
		},
		func(_ *testing.T, p pair) {
			p.log.Clean(math.MaxInt, 0, 50)
			p.want.clean(math.MaxInt, 0, 50)
		},
		func(_ *testing.T, p pair) {
			p.log.Clean(p.want.low()+2, 100, 0)
			p.want.clean(p.want.low()+2, 100, 0)
		},
		func(_ *testing.T, p pair) {
			p.log.Retain(api.Conf{Age: 10}, 35)
			p.want.retain(api.Conf{Age: 10}, 35)
		},
		func(t *testing.T, p pair) { same(t, p.log.Merge(3), p.want.merge(3), "P1503: Merge") },
		func(t *testing.T, p pair) {
			// The last of these that is right is the next one.
			for i := len(p.want.list); i > 0; i-- {
				if p.offload(t, i-1, 0, 0, 0, 0) == api.OK {
					return
				}
			}
		},
	}
}

// TestP1501AllShortPlays does all rows of up to 5 steps.
func TestP1501AllShortPlays(t *testing.T) {
	count := 0
	ends := map[string]bool{}
	var in func(p pair, left int)
	in = func(p pair, left int) {
		p.check(t, "short play")
		for offset := -1; offset <= p.want.high(); offset++ {
			finds(t, p.log, p.want, offset)
		}
		count++
		ends[tell(p.want.list)] = true
		if left == 0 {
			return
		}
		for _, step := range steps() {
			c := p.copy()
			step(t, c)
			in(c, left-1)
		}
	}
	in(newPair(), 5)
	if want := 1 + 9 + 9*9 + 9*9*9 + 9*9*9*9 + 9*9*9*9*9; count != want {
		t.Errorf("%d plays, want %d", count, want)
	}
	if len(ends) < 1000 {
		t.Errorf("%d ends", len(ends))
	}
}

// TestP1501LongPlay fills and empties one log for a long time.
func TestP1501LongPlay(t *testing.T) {
	k := &picker{x: 15}
	p := newPair()
	most := 0
	for i := range 3000 {
		p.append(t, k.records(5), 4)
		if i%5 == 0 {
			point, now := p.want.low()+k.pick(30), 10*k.pick(6)
			p.log.Clean(point, now, 5)
			p.want.clean(point, now, 5)
		}
		if i%3 == 0 {
			same(t, p.log.Merge(6), p.want.merge(6), "P1503: Merge")
		}
		if i%4 == 0 {
			at := slices.IndexFunc(p.want.list, func(g api.Segment) bool { return !g.Remote })
			p.offload(t, at, 0, 0, 0, 0)
		}
		if i%7 == 0 {
			c, now := api.Conf{Age: 25, Keep: 3000}, k.pick(50)
			p.log.Retain(c, now)
			p.want.retain(c, now)
		}
		p.check(t, "long play")
		most = max(most, len(p.want.list))
	}
	if p.want.low() < 1000 || most < 5 {
		t.Errorf("Low %d, up to %d segments", p.want.low(), most)
	}
}
