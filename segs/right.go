package segs

import (
	"cooperage/api"
	"cooperage/record"
)

const maxNext = 1 << 50

// right tells whether the segments of l can be those of a log.
func right(l []api.Segment) bool {
	last := len(l) - 1
	for i, g := range l {
		if g.Sealed != (i < last) || !can(g) {
			return false
		}
		if i > 0 && !follows(g, l[i-1]) {
			return false
		}
	}
	return len(l) > 0
}

// follows tells whether g can stand behind that one.
func follows(g, ahead api.Segment) bool {
	return g.Base == ahead.Next && (ahead.Remote || !g.Remote)
}

// can tells whether g can be a segment of some log.
func can(g api.Segment) bool {
	return g.Base >= 0 && g.Base <= g.Next && g.Next <= maxNext &&
		g.Time >= -api.MaxTime && g.Time <= api.MaxTime &&
		g.Gen >= 0 && g.Size >= 0 && stands(g) && holds(g)
}

// stands tells whether g has an offset if it is Sealed, and what only a sealed one has if not.
func stands(g api.Segment) bool {
	if g.Sealed {
		return g.Base < g.Next
	}
	return !g.Clean && !g.Remote && g.Time == 0
}

// holds tells whether the Records of g can be its own, and its Size and Sum theirs.
func holds(g api.Segment) bool {
	if g.Remote {
		return len(g.Records) == 0
	}
	next := g.Base // the least Offset that the next one may have
	for _, r := range g.Records {
		if !record.Right(r) || r.Offset < next || r.Offset >= g.Next {
			return false
		}
		next = r.Offset + 1
	}
	return g.Sum == 0 && g.Size == size(g.Records)
}
