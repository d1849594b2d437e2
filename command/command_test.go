package command

import (
	"bytes"
	"encoding/binary"
	"math"
	"reflect"
	"slices"
	"strings"
	"sync"
	"testing"

	"cooperage/api"
	"cooperage/names"
	"cooperage/record"
)

const (
	topOffset = 1125899906842624 // 2^50
	topCount  = 1099511627776    // 2^40, of a time too
)

func text(n int) string { return strings.Repeat("t", n) }

// bound says between which numbers a field of a Kind is.
type bound struct {
	kind        int
	field       string
	least, most int
}

// bounds are P1001's numbers, kind by kind.
func bounds() []bound {
	return []bound{
		{api.KProduce, "Pid", 0, topCount},
		{api.KProduce, "Seq", 0, topCount},
		{api.KFetch, "Offset", 0, topOffset},
		{api.KFetch, "Max", 1, 100},
		{api.KCommit, "Offset", 0, topOffset},
		{api.KOffsets, "Now", -topCount, topCount},
		{api.KConfig, "Segment", 1, 1000},
		{api.KConfig, "Keep", 0, topCount},
		{api.KConfig, "Age", 0, topCount},
		{api.KConfig, "Grace", 0, topCount},
		{api.KClean, "Offset", 0, topOffset},
		{api.KClean, "Now", -topCount, topCount},
		{api.KRetain, "Now", -topCount, topCount},
		{api.KOffload, "Offset", 0, topOffset},
		{api.KOffload, "Seq", 0, topCount},
		{api.KOffload, "Max", 0, topCount},
	}
}

// fieldNames are all fields of a command but its Kind, those of Conf one by one.
func fieldNames() []string {
	return []string{"Pid", "Seq", "Records", "Group", "Offset", "Max", "Now", "Sum", "Segment", "Keep", "Age", "Grace"}
}

// isNamed tells whether that Kind names that field.
func isNamed(kind int, field string) bool {
	return strings.Contains(map[int]string{
		api.KProduce: "Pid Seq Records",
		api.KFetch:   "Offset Max",
		api.KCommit:  "Group Offset",
		api.KGroup:   "Group",
		api.KOffsets: "Now",
		api.KConfig:  "Segment Keep Age Grace",
		api.KClean:   "Offset Now",
		api.KRetain:  "Now",
		api.KOffload: "Offset Seq Max Sum",
	}[kind], field)
}

// turned answers c with another value in that field.
func turned(c api.Command, field string, value any) api.Command {
	v := reflect.ValueOf(&c).Elem()
	if !v.FieldByName(field).IsValid() {
		v = v.FieldByName("Conf")
	}
	v.FieldByName(field).Set(reflect.ValueOf(value))
	return c
}

// values are some that are not zero, of the type of that field.
func values(field string) []any {
	switch field {
	case "Records":
		return []any{batchOf(1), batchOf(50), batchOf(51), []api.Record{{}}}
	case "Group":
		return []any{"g", "G", "\x00", " ", text(41)}
	case "Sum":
		return []any{uint32(1), uint32(1 << 31), uint32(math.MaxUint32)}
	}
	return []any{1, -1, 5, 1000, topCount, -topCount, 1 << 32, math.MinInt, math.MaxInt}
}

// records are right ones without an Offset, the least and the greatest.
func records() []api.Record {
	return []api.Record{
		{Key: "a"},
		{Time: -topCount, Key: text(200), Value: text(2000)},
		{Time: topCount, Key: "\x00", Dead: true},
		{Time: -1, Key: "é\xff", Value: "\x00\x80"},
	}
}

// batchOf are n right records without an Offset.
func batchOf(n int) []api.Record {
	l, all := []api.Record{}, records()
	for i := range n {
		l = append(l, all[i%len(all)])
	}
	return l
}

// wrongRecords are those that can't be produced: not right, or with an Offset.
func wrongRecords() []api.Record {
	return []api.Record{
		{},
		{Key: text(201)},
		{Key: "a", Value: text(2001)},
		{Key: "a", Value: "v", Dead: true},
		{Key: "a", Time: topCount + 1},
		{Key: "a", Time: -topCount - 1},
		{Key: "a", Time: math.MinInt},
		{Key: "a", Offset: 1},
		{Key: "a", Offset: 127},
		{Key: "a", Offset: topOffset},
		{Key: "a", Offset: topOffset + 1},
		{Key: "a", Offset: math.MaxInt},
		{Key: "a", Offset: -1},
		{Key: "a", Offset: math.MinInt},
	}
}

// bases are a right command of each Kind; each field that the Kind names is none of its edges.
func bases() []api.Command {
	return []api.Command{
		{Kind: api.KNone},
		{Kind: api.KProduce, Pid: 300, Seq: 7, Records: batchOf(2)},
		{Kind: api.KFetch, Offset: 1000, Max: 30},
		{Kind: api.KCommit, Group: "readers", Offset: 128},
		{Kind: api.KGroup, Group: "日本-1"},
		{Kind: api.KOffsets, Now: -90},
		{Kind: api.KConfig, Conf: api.Conf{Segment: 100, Keep: 1, Age: 200, Grace: 40000}},
		{Kind: api.KSeal},
		{Kind: api.KClean, Offset: 64, Now: 65},
		{Kind: api.KRetain, Now: 8191},
		{Kind: api.KMerge},
		{Kind: api.KOffload, Offset: 5, Seq: 6, Max: 70000, Sum: 0xDEADBEEF},
	}
}

// baseOf is the right command in which b's field may have each number of b.
func baseOf(b bound) api.Command {
	c := bases()[b.kind]
	if b.field == "Pid" {
		c.Seq = 0 // without a Pid there is none
	}
	return c
}

// groupNames are names, of one rune and of as many as may be.
func groupNames() []string {
	return []string{"g", "0", "é", "a-_.", text(39), text(40), strings.Repeat("日", 40)}
}

// right are many right commands of each Kind: each number at and beside its edges, with and without what it may have.
func right() []api.Command {
	out := bases()
	for _, b := range bounds() {
		for _, n := range []int{b.least, b.least + 1, b.least/2 + b.most/2, b.most - 1, b.most} {
			out = append(out, turned(baseOf(b), b.field, n))
		}
	}
	for _, n := range []int{1, 2, 49, 50} {
		out = append(out,
			api.Command{Kind: api.KProduce, Records: batchOf(n)},
			api.Command{Kind: api.KProduce, Pid: 1, Records: batchOf(n)},
			api.Command{Kind: api.KProduce, Pid: topCount, Seq: topCount, Records: batchOf(n)})
	}
	for _, r := range records() {
		out = append(out, api.Command{Kind: api.KProduce, Records: []api.Record{r}})
	}
	for _, group := range groupNames() {
		out = append(out, api.Command{Kind: api.KGroup, Group: group}, api.Command{Kind: api.KCommit, Group: group})
	}
	for _, sum := range []uint32{0, 1, 127, 128, 1 << 31, math.MaxUint32} {
		out = append(out, api.Command{Kind: api.KOffload, Sum: sum})
	}
	return append(out,
		api.Command{Kind: api.KFetch, Max: 1},
		api.Command{Kind: api.KFetch, Offset: topOffset, Max: 100},
		api.Command{Kind: api.KOffsets},
		api.Command{Kind: api.KConfig, Conf: api.Conf{Segment: 1}},
		api.Command{Kind: api.KConfig, Conf: api.Conf{Segment: 1000, Keep: topCount, Age: topCount, Grace: topCount}},
		api.Command{Kind: api.KClean},
		api.Command{Kind: api.KClean, Offset: topOffset, Now: -topCount},
		api.Command{Kind: api.KRetain},
		api.Command{Kind: api.KOffload, Offset: topOffset, Seq: topCount, Max: topCount, Sum: math.MaxUint32})
}

// outOfBounds are commands in which one field is wrong that their Kind names.
func outOfBounds() []api.Command {
	out := []api.Command{}
	for _, b := range bounds() {
		for _, n := range []int{math.MinInt, math.MinInt + 1, b.least - 1000, b.least - 1, b.most + 1, b.most + 1000, 1 << 62, math.MaxInt} {
			out = append(out, turned(baseOf(b), b.field, n))
		}
	}
	for _, seq := range []int{1, 2, topCount, -1, math.MinInt, math.MaxInt} {
		out = append(out, api.Command{Kind: api.KProduce, Seq: seq, Records: batchOf(1)})
	}
	for _, n := range []int{0, 51, 52, 127, 128, 1000} {
		out = append(out, api.Command{Kind: api.KProduce, Records: batchOf(n)}, api.Command{Kind: api.KProduce, Pid: 3, Seq: 4, Records: batchOf(n)})
	}
	out = append(out, api.Command{Kind: api.KProduce, Pid: 1})
	for _, r := range wrongRecords() {
		for _, n := range []int{0, 1, 2, 49} {
			for _, at := range []int{0, n / 2, n} {
				out = append(out, api.Command{Kind: api.KProduce, Records: slices.Insert(batchOf(n), at, r)})
			}
		}
	}
	for _, group := range []string{"", "G", "-g", ".", "_", "a b", "g\n", "\xff", "a\xff", "\xe6\x97", "\u00ad", "😀", text(41), strings.Repeat("日", 41), text(100000)} {
		out = append(out, api.Command{Kind: api.KGroup, Group: group}, api.Command{Kind: api.KCommit, Group: group}, api.Command{Kind: api.KCommit, Group: group, Offset: 9})
	}
	for _, kind := range noKinds() {
		out = append(out, api.Command{Kind: kind})
	}
	return append(out, api.Command{Kind: api.KFetch}, api.Command{Kind: api.KConfig})
}

// noKinds are numbers of no Kind, on both sides of those that are.
func noKinds() []int {
	out := []int{math.MinInt, math.MinInt + 1, -1 << 32, 1<<32 + 1, 1 << 62, math.MaxInt - 1, math.MaxInt, 256, 257, 267, -256, -255}
	for n := 1; n < 30; n++ {
		out = append(out, -n, 11+n)
	}
	return out
}

// notNamed are commands in which one field is not zero that their Kind does not name.
func notNamed() []api.Command {
	out := []api.Command{}
	for _, c := range bases() {
		for _, field := range fieldNames() {
			if isNamed(c.Kind, field) {
				continue
			}
			for _, value := range values(field) {
				out = append(out, turned(c, field, value))
			}
		}
	}
	return out
}

// empty answers c with an empty list in the place of no Records.
func empty(c api.Command) api.Command {
	if len(c.Records) == 0 {
		c.Records = []api.Record{}
	}
	return c
}

// slowRight says P1001's sentence kind by kind: what a Kind names is right, and what is left without it is nothing.
func slowRight(c api.Command) bool {
	in := func(n, least, most int) bool { return least <= n && n <= most }
	left := c
	if len(left.Records) == 0 {
		left.Records = nil
	}
	ok := true
	switch c.Kind {
	case 0, 7, 10:
	case 1:
		left.Pid, left.Seq, left.Records = 0, 0, nil
		ok = in(c.Pid, 0, topCount) && in(c.Seq, 0, topCount) && (c.Pid > 0 || c.Seq == 0) && in(len(c.Records), 1, 50)
		for _, r := range c.Records {
			ok = ok && record.Right(r) && r.Offset == 0
		}
	case 2:
		left.Offset, left.Max = 0, 0
		ok = in(c.Offset, 0, topOffset) && in(c.Max, 1, 100)
	case 3:
		left.Group, left.Offset = "", 0
		ok = names.Valid(c.Group) && in(c.Offset, 0, topOffset)
	case 4:
		left.Group = ""
		ok = names.Valid(c.Group)
	case 5, 9:
		left.Now = 0
		ok = in(c.Now, -topCount, topCount)
	case 6:
		left.Conf = api.Conf{}
		ok = in(c.Conf.Segment, 1, 1000) && in(c.Conf.Keep, 0, topCount) && in(c.Conf.Age, 0, topCount) && in(c.Conf.Grace, 0, topCount)
	case 8:
		left.Offset, left.Now = 0, 0
		ok = in(c.Offset, 0, topOffset) && in(c.Now, -topCount, topCount)
	case 11:
		left.Offset, left.Seq, left.Max, left.Sum = 0, 0, 0, 0
		ok = in(c.Offset, 0, topOffset) && in(c.Seq, 0, topCount) && in(c.Max, 0, topCount)
	default:
		return false
	}
	return ok && reflect.DeepEqual(left, api.Command{Kind: c.Kind})
}

// slowBytes writes what c's Kind names by the library's numbers, whether c is right or not.
func slowBytes(c api.Command) []byte {
	b := binary.AppendVarint(nil, int64(c.Kind))
	ints := func(l ...int) {
		for _, n := range l {
			b = binary.AppendVarint(b, int64(n))
		}
	}
	group := func() { b = append(binary.AppendUvarint(b, uint64(len(c.Group))), c.Group...) }
	switch c.Kind {
	case 1:
		ints(c.Pid, c.Seq)
		b = binary.AppendUvarint(b, uint64(len(c.Records)))
		for _, r := range c.Records {
			b = append(b, slowRecord(r)...)
		}
	case 2:
		ints(c.Offset, c.Max)
	case 3:
		group()
		ints(c.Offset)
	case 4:
		group()
	case 5, 9:
		ints(c.Now)
	case 6:
		ints(c.Conf.Segment, c.Conf.Keep, c.Conf.Age, c.Conf.Grace)
	case 8:
		ints(c.Offset, c.Now)
	case 11:
		ints(c.Offset, c.Seq, c.Max)
		b = binary.AppendUvarint(b, uint64(c.Sum))
	}
	return b
}

// slowRecord writes r as record.Put would, were it right.
func slowRecord(r api.Record) []byte {
	b := binary.AppendUvarint(nil, uint64(r.Offset))
	b = append(binary.AppendVarint(b, int64(r.Time)), 0)
	if r.Dead {
		b[len(b)-1] = 1
	}
	b = append(binary.AppendUvarint(b, uint64(len(r.Key))), r.Key...)
	return append(binary.AppendUvarint(b, uint64(len(r.Value))), r.Value...)
}

// alike tells whether all of a and b is one, by the library; nil and an empty list are.
func alike(a, b api.Command) bool {
	return reflect.DeepEqual(empty(a), empty(b))
}

// checkRead fails if Read of b is anything but ErrSyntax alone, or a right command. What is read is written as those bytes (more than the document asks: no bytes are read beside those that are written).
func checkRead(t *testing.T, b []byte) api.Errno {
	t.Helper()
	c, e := Read(b)
	switch {
	case e == api.OK:
		if !slowRight(c) || !bytes.Equal(slowBytes(c), b) {
			t.Fatalf("P1002: Read %.99q: %v, not right, or not those bytes", b, c)
		}
	case e != api.ErrSyntax || !alike(c, api.Command{}):
		t.Fatalf("P1002: Read %.99q: %v, %d", b, c, e)
	}
	return e
}

// checkSyntax fails if Read of b is anything but ErrSyntax alone.
func checkSyntax(t *testing.T, b []byte) {
	t.Helper()
	if c, e := Read(b); e != api.ErrSyntax || !alike(c, api.Command{}) {
		t.Errorf("P1002: Read %.99q: %v, %d", b, c, e)
	}
}

func TestP1001RightWritten(t *testing.T) {
	for _, c := range right() {
		if !Right(c) || !Right(empty(c)) {
			t.Errorf("P1001: not Right: %v", c)
		}
	}
	for _, c := range outOfBounds() {
		if Right(c) || Right(empty(c)) {
			t.Errorf("P1001: Right: %v", c)
		}
	}
	for _, c := range notNamed() {
		if Right(c) {
			t.Errorf("P1001: Right, but a field of it is not named: %v", c)
		}
	}
}

func TestP1001Numbers(t *testing.T) {
	if len(bases()) != api.KOffload+1 {
		t.Fatalf("there are %d kinds", len(bases()))
	}
	for _, b := range bounds() {
		c := baseOf(b)
		if c.Kind != b.kind {
			t.Fatalf("the base of kind %d is of kind %d", b.kind, c.Kind)
		}
		all := []int{math.MinInt, math.MinInt + 1, -topOffset - 1, -topOffset, -topCount - 1, -topCount, -1 << 32, -1000, -2, -1, 0, 1, 2, 99, 100, 101, 999, 1000, 1001, 1 << 32, topCount - 1, topCount, topCount + 1, topOffset - 1, topOffset, topOffset + 1, 1 << 62, math.MaxInt - 1, math.MaxInt}
		for _, n := range append(all, b.least-1, b.least, b.least+1, b.most-1, b.most, b.most+1) {
			if got, want := Right(turned(c, b.field, n)), n >= b.least && n <= b.most; got != want {
				t.Errorf("P1001: Right of kind %d with %s %d: %v", b.kind, b.field, n, got)
			}
		}
	}
}

func TestP1001SeqWithoutPid(t *testing.T) {
	for _, pid := range []int{-1, 0, 1, 2, topCount, topCount + 1} {
		for _, seq := range []int{math.MinInt, -1, 0, 1, 2, topCount, topCount + 1, math.MaxInt} {
			want := pid == 0 && seq == 0 || pid >= 1 && pid <= topCount && seq >= 0 && seq <= topCount
			if got := Right(api.Command{Kind: api.KProduce, Pid: pid, Seq: seq, Records: batchOf(1)}); got != want {
				t.Errorf("P1001: Right of Pid %d, Seq %d: %v", pid, seq, got)
			}
		}
	}
	// Of another Kind a Seq stands without a Pid.
	if !Right(api.Command{Kind: api.KOffload, Seq: 1}) || Right(api.Command{Kind: api.KOffload, Seq: 1, Pid: 1}) {
		t.Error("P1001: Seq of KOffload")
	}
}

func TestP1001HowManyRecords(t *testing.T) {
	if api.MaxBatch != 50 {
		t.Fatalf("api.MaxBatch: %d", api.MaxBatch)
	}
	for n := range 130 {
		c := api.Command{Kind: api.KProduce, Records: batchOf(n)}
		if got, want := Right(c), n >= 1 && n <= 50; got != want {
			t.Errorf("P1001: Right of %d records: %v", n, got)
		}
	}
	if Right(api.Command{Kind: api.KProduce}) || Right(api.Command{Kind: api.KProduce, Records: batchOf(60)[:0]}) {
		t.Error("P1001: Right of no records")
	}
	if !Right(api.Command{Kind: api.KProduce, Records: batchOf(60)[:50]}) {
		t.Error("P1001: Right looked at spare room")
	}
}

func TestP1001WhichRecords(t *testing.T) {
	for _, r := range wrongRecords() {
		for _, n := range []int{0, 1, 2, 3, 49} {
			for at := range n + 1 {
				if Right(api.Command{Kind: api.KProduce, Pid: 1, Records: slices.Insert(batchOf(n), at, r)}) {
					t.Errorf("P1001: Right of %d records, of which %v stands at %d", n+1, r, at)
				}
			}
		}
	}
	// They need not be different ones, nor in a row of their Times.
	if !Right(api.Command{Kind: api.KProduce, Records: slices.Repeat([]api.Record{{Time: 5, Key: "a"}, {Time: -5, Key: "a"}}, 25)}) {
		t.Error("P1001: not Right of records that are alike")
	}
}

func TestP1001Groups(t *testing.T) {
	texts := append(groupNames(), "", "G", "-", "-g", "g-", ".", "a b", "\xff", "g\x00", "\ufffd", "\u00a0", "\u00a1", "\u00ad", "\ufeff", "\uffff", "😀", text(41), strings.Repeat("é", 41), text(3000))
	for _, group := range texts {
		for _, c := range []api.Command{{Kind: api.KGroup, Group: group}, {Kind: api.KCommit, Group: group}, {Kind: api.KCommit, Group: group, Offset: topOffset}} {
			if got, want := Right(c), names.Valid(group); got != want {
				t.Errorf("P1001: Right of kind %d, group %.50q: %v", c.Kind, group, got)
			}
		}
	}
}

func TestP1001Kinds(t *testing.T) {
	bare := []int{api.KNone, api.KOffsets, api.KSeal, api.KClean, api.KRetain, api.KMerge, api.KOffload}
	for kind := range api.KOffload + 1 {
		for _, c := range []api.Command{{Kind: kind}, {Kind: kind, Records: []api.Record{}}} {
			if got, want := Right(c), slices.Contains(bare, kind); got != want {
				t.Errorf("P1001: Right of kind %d alone: %v", kind, got)
			}
		}
	}
	for _, kind := range noKinds() {
		for _, c := range bases() {
			c.Kind = kind
			if Right(c) {
				t.Errorf("P1001: Right of kind %d: %v", kind, c)
			}
		}
	}
}

// TestP1001NotNamed sets each field that a Kind does not name, alone, to a value that another Kind may have, and to others.
func TestP1001NotNamed(t *testing.T) {
	seen := 0
	for _, c := range bases() {
		for _, field := range fieldNames() {
			for _, value := range values(field) {
				x := turned(c, field, value)
				if !isNamed(c.Kind, field) && Right(x) {
					t.Errorf("P1001: Right of kind %d with %s: %v", c.Kind, field, value)
				}
				if isNamed(c.Kind, field) && Right(x) != slowRight(x) {
					t.Errorf("P1001: Right of kind %d with %s %v: %v", c.Kind, field, value, Right(x))
				}
				seen++
			}
		}
		if !Right(empty(c)) {
			t.Errorf("P1001: no Records are not the same as an empty list, of kind %d", c.Kind)
		}
	}
	if seen < 800 {
		t.Errorf("%d were tried", seen)
	}
}

// many calls f with n commands of which each field is mostly zero, or what the Kind may have, and now and then another one.
func many(n int, f func(c api.Command)) {
	x := uint32(5)
	next := func(n int) int {
		x = x*1664525 + 1013904223
		return int(x>>8) % n
	}
	all, odd := right(), append(outOfBounds(), notNamed()...)
	for range n {
		c := all[next(len(all))]
		for next(3) == 0 {
			other := all[next(len(all))]
			if next(2) == 0 {
				other = odd[next(len(odd))]
			}
			from, to := reflect.ValueOf(other), reflect.ValueOf(&c).Elem()
			i := next(to.NumField())
			to.Field(i).Set(from.Field(i))
		}
		f(c)
	}
}

func TestP1001OfMany(t *testing.T) {
	seen := map[[2]int]int{}
	many(100000, func(c api.Command) {
		got, want := Right(c), slowRight(c)
		if got != want {
			t.Fatalf("P1001: Right %v: %v", c, got)
		}
		if want {
			seen[[2]int{c.Kind, 1}]++
		} else {
			seen[[2]int{c.Kind, 0}]++
		}
	})
	for kind := range api.KOffload + 1 {
		if seen[[2]int{kind, 0}] < 20 || seen[[2]int{kind, 1}] < 20 {
			t.Errorf("of kind %d were tried: %d wrong, %d right", kind, seen[[2]int{kind, 0}], seen[[2]int{kind, 1}])
		}
	}
}

func TestP1002ThereAndBack(t *testing.T) {
	whose := map[string]api.Command{}
	for _, c := range right() {
		b := Bytes(c)
		if len(b) == 0 {
			t.Errorf("P1002: no Bytes of %v", c)
		}
		back, e := Read(b)
		if e != api.OK || !alike(back, c) || !Same(back, c) {
			t.Errorf("P1002: Read of Bytes of %v: %v, %d", c, back, e)
		}
		if other, ok := whose[string(b)]; ok && !alike(other, c) {
			t.Errorf("P1002: %v and %v have the same Bytes", c, other)
		}
		whose[string(b)] = c
		if !bytes.Equal(Bytes(empty(c)), b) {
			t.Errorf("P1002: Bytes of %v are others, of an empty list", c)
		}
	}
	many(50000, func(c api.Command) {
		b := Bytes(c)
		if !slowRight(c) && len(b) > 0 {
			t.Fatalf("P1002: Bytes %v: %q", c, b)
		}
		if back, e := Read(b); slowRight(c) && (e != api.OK || !alike(back, c)) {
			t.Fatalf("P1002: Read of Bytes of %v: %v, %d", c, back, e)
		}
	})
}

// TestP1002BytesWritten holds what further tests lean on: that slowBytes writes what Bytes does.
func TestP1002BytesWritten(t *testing.T) {
	for want, c := range map[string]api.Command{
		"\x00":                                  {},
		"\x02\x02\x04\x01\x00\x00\x00\x01a\x00": {Kind: api.KProduce, Pid: 1, Seq: 2, Records: []api.Record{{Key: "a"}}},
		"\x02\x00\x00\x02" + "\x00\x01\x00\x01a\x01v" + "\x00\x02\x01\x01b\x00": {Kind: api.KProduce, Records: []api.Record{{Time: -1, Key: "a", Value: "v"}, {Time: 1, Key: "b", Dead: true}}},
		"\x04\x0a\xc8\x01":                     {Kind: api.KFetch, Offset: 5, Max: 100},
		"\x06\x01g\x06":                        {Kind: api.KCommit, Group: "g", Offset: 3},
		"\x08\x03x-1":                          {Kind: api.KGroup, Group: "x-1"},
		"\x0a\x03":                             {Kind: api.KOffsets, Now: -2},
		"\x0c\x02\x04\x06\x08":                 {Kind: api.KConfig, Conf: api.Conf{Segment: 1, Keep: 2, Age: 3, Grace: 4}},
		"\x0e":                                 {Kind: api.KSeal},
		"\x10\x02\x04":                         {Kind: api.KClean, Offset: 1, Now: 2},
		"\x12\x05":                             {Kind: api.KRetain, Now: -3},
		"\x14":                                 {Kind: api.KMerge},
		"\x16\x02\x04\x06\xff\xff\xff\xff\x0f": {Kind: api.KOffload, Offset: 1, Seq: 2, Max: 3, Sum: math.MaxUint32},
	} {
		if got := Bytes(c); string(got) != want {
			t.Errorf("P1002: Bytes %v: %q, want %q", c, got, want)
		}
		if got, e := Read([]byte(want)); e != api.OK || !alike(got, c) {
			t.Errorf("P1002: Read %q: %v, %d, want %v", want, got, e, c)
		}
	}
	for _, c := range right() {
		if got, want := Bytes(c), slowBytes(c); !bytes.Equal(got, want) {
			t.Errorf("P1002: Bytes %v: %q, want %q", c, got, want)
		}
	}
}

func TestP1002BytesOfWrong(t *testing.T) {
	for _, c := range append(outOfBounds(), notNamed()...) {
		if got := Bytes(c); len(got) != 0 {
			t.Errorf("P1002: Bytes %v: %q", c, got)
		}
	}
}

func TestP1002ReadOfNoBytes(t *testing.T) {
	for _, b := range [][]byte{nil, {}, Bytes(bases()[1])[:0]} {
		checkSyntax(t, b)
	}
}

// TestP1002ReadOfWrong reads what a command's bytes would be, were it right.
func TestP1002ReadOfWrong(t *testing.T) {
	for _, c := range outOfBounds() {
		checkSyntax(t, slowBytes(c))
	}
	for _, kind := range noKinds() {
		for _, c := range bases() {
			b := binary.AppendVarint(nil, int64(kind))
			checkSyntax(t, append(b, slowBytes(c)[1:]...))
		}
	}
}

// TestP1002ReadOfWrongNumbers puts numbers in each place that are none, or that no field of that type can have.
func TestP1002ReadOfWrongNumbers(t *testing.T) {
	fronts := []string{
		"", "\x02", "\x02\x02", "\x02\x02\x02", "\x02\x02\x02\x01", "\x02\x02\x02\x01\x00", "\x02\x02\x02\x01\x00\x00\x00", "\x02\x02\x02\x01\x00\x00\x00\x01a",
		"\x04", "\x04\x02", "\x06", "\x06\x01g", "\x08", "\x0a", "\x0c", "\x0c\x02", "\x0c\x02\x02", "\x0c\x02\x02\x02",
		"\x10", "\x10\x02", "\x12", "\x16", "\x16\x02", "\x16\x02\x02", "\x16\x02\x02\x02",
	}
	numbers := []string{"\x80", "\x80\x00", "\x82\x00", "\x82\x80\x00", "\xff\xff", strings.Repeat("\x80", 10), strings.Repeat("\xff", 9) + "\x00", strings.Repeat("\xff", 9) + "\x02", strings.Repeat("\xff", 20)}
	for _, x := range []uint64{1 << 32, 1<<32 + 1, 1 << 52, 1 << 53, 1 << 62, math.MaxInt64, 1 << 63, 1<<63 + 1, math.MaxUint64 - 1, math.MaxUint64} {
		numbers = append(numbers, string(binary.AppendUvarint(nil, x)))
	}
	for _, front := range fronts {
		for _, number := range numbers {
			for _, behind := range []string{"", "\x00", "g", "\x02\x02\x02\x02", "\x01\x00\x00\x00\x01a\x00", text(300)} {
				checkRead(t, []byte(front+number+behind))
			}
		}
	}
}

func TestP1002ReadOfNoCommandWritten(t *testing.T) {
	most := strings.Repeat("\xff", 9) + "\x01" // the greatest number
	a := "\x00\x00\x00\x01a\x00"               // a record
	for _, b := range []string{
		"\x16\x02\x02\x02\x80\x80\x80\x80\x10", // a Sum of 2^32
		"\x16\x02\x02\x02\x81\x80\x80\x80\x10", // one of which the low 32 bits are 1
		"\x16\x02\x02\x02" + most,
		"\x08\x00", "\x08\x00g", "\x08\x01", "\x08\x02g", "\x08\x01gg", "\x06\x02g", "\x06\x01g",
		"\x08" + most, "\x08" + most + "g",
		"\x08\x81\x80\x80\x80\x80\x80\x80\x80\x80\x01g", // 2^63 + 1 bytes, as an int below 0
		"\x02\x00\x00\x00", "\x02\x00\x00\x01", "\x02\x00\x00\x02" + a, "\x02\x00\x00\x01" + a + a, "\x02\x00\x00\x00" + a,
		"\x02\x00\x00" + most + a,
		"\x02\x00\x00\x81\x80\x80\x80\x80\x80\x80\x80\x80\x01" + a,
		"\x02\x00\x00\x33" + strings.Repeat(a, 51), "\x02\x00\x00\x33" + strings.Repeat(a, 50), "\x02\x00\x00\x32" + strings.Repeat(a, 51),
		"\x02\x00\x02\x01" + a,                   // a Seq without a Pid
		"\x02\x00\x00\x01\x01\x00\x00\x01a\x00",  // an Offset
		"\x02\x00\x00\x01\x00\x00\x02\x01a\x00",  // neither Dead nor not
		"\x02\x00\x00\x01\x00\x00\x00\x00\x00",   // no Key
		"\x02\x00\x00\x01\x00\x00\x01\x01a\x01v", // Dead, with a Value
		"\x01", "\x03", "\x18", "\x17", "\x80\x00", "\x8e\x00", "\xff", "zzzz",
		"\x00\x00", "\x0e\x0e", "\x14\x00",
	} {
		checkSyntax(t, []byte(b))
	}
}

// TestP1002ReadTorn fails if bytes of which the end was torn off are read as another command.
func TestP1002ReadTorn(t *testing.T) {
	for _, c := range right() {
		b := Bytes(c)
		for k := range b {
			if k < 60 || k > len(b)-60 || k%97 == 0 {
				checkSyntax(t, b[:k:k])
				checkRead(t, b[k:])
			}
		}
	}
}

func TestP1002ReadTurnedBits(t *testing.T) {
	seen := map[api.Errno]int{}
	for _, c := range append(bases(), api.Command{Kind: api.KProduce, Pid: topCount, Seq: 1, Records: batchOf(1)}, api.Command{Kind: api.KOffload, Sum: math.MaxUint32}) {
		b := Bytes(c)
		for i := range b {
			for k := range 8 {
				b[i] ^= 1 << k
				seen[checkRead(t, b)]++
				checkRead(t, b[:i+1])
				b[i] ^= 1 << k
			}
		}
	}
	if seen[api.OK] == 0 || seen[api.ErrSyntax] == 0 {
		t.Errorf("not both kinds of bytes were tried: %v", seen)
	}
}

func TestP1002ReadTurnedBytes(t *testing.T) {
	for _, c := range bases() {
		b := Bytes(c)
		for i, was := range b[:min(len(b), 40)] {
			for x := range 256 {
				b[i] = byte(x)
				checkRead(t, b)
			}
			b[i] = was
		}
	}
}

// TestP1002ReadWithMoreBehind reads bytes with others behind them, and two commands one behind the other.
func TestP1002ReadWithMoreBehind(t *testing.T) {
	for _, c := range right() {
		b := Bytes(c)
		for x := range 256 {
			checkSyntax(t, append(b[:len(b):len(b)], byte(x)))
		}
		for _, d := range bases() {
			checkSyntax(t, slices.Concat(b, Bytes(d)))
			checkSyntax(t, slices.Concat(Bytes(d), b))
		}
		checkSyntax(t, slices.Concat(b, make([]byte, 300)))
	}
}

// TestP1002ReadOfNoMeaning reads rows of bytes that are often near to a command.
func TestP1002ReadOfNoMeaning(t *testing.T) {
	for x := range 256 {
		for n := range 70 {
			checkRead(t, bytes.Repeat([]byte{byte(x)}, n))
		}
	}
	for x := range 1 << 16 {
		checkRead(t, []byte{byte(x), byte(x >> 8)})
		checkRead(t, []byte{byte(x), byte(x >> 8), 2, 2})
	}
	kinds := []string{"\x00", "\x00", "\x01", "\x02", "\x02", "\x04", "\x06", "\x08", "\x0a", "\x0c", "\x0e", "\x10", "\x12", "\x14", "\x16", "\x18", "g", "-", "\x7f", "\x80", "\xc8\x01", "\xff", "\x00\x00\x00\x01a\x00", "\x01\x00\x00\x00\x01a\x00", strings.Repeat("\xff", 9)}
	seen := map[api.Errno]int{}
	x := uint32(11)
	for n := range 300000 {
		b := []byte{}
		for range n % 9 {
			x = x*1664525 + 1013904223
			b = append(b, kinds[int(x>>16)%len(kinds)]...)
		}
		seen[checkRead(t, b)]++
	}
	if seen[api.OK] < 1000 || seen[api.ErrSyntax] < 1000 {
		t.Errorf("not both kinds of bytes were tried: %v", seen)
	}
}

// TestP1002ReadOfLong would not end soon, or take much memory, if Read went by what a number promises.
func TestP1002ReadOfLong(t *testing.T) {
	long := bytes.Repeat([]byte("\x00\x00\x00\x01a\x00"), 300000)
	for _, front := range []string{"\x02\x00\x00\x32", "\x02\x00\x00\x33", "\x02\x00\x00\xff\xff\xff\xff\x0f", "\x02\x00\x00" + strings.Repeat("\xff", 9) + "\x01", "\x08\xff\xff\xff\xff\x0f", "\x08\x80\xf7\x02", "\x06\x80\xf7\x02", "\x00", ""} {
		checkSyntax(t, append([]byte(front), long...))
	}
}

func TestP1002SameOfEachField(t *testing.T) {
	for _, c := range append(bases(), api.Command{Kind: -1}) {
		if !Same(c, c) || !Same(c, empty(c)) || !Same(empty(c), c) {
			t.Errorf("P1002: %v is not the Same as itself", c)
		}
		for _, field := range append(fieldNames(), "Kind") {
			for _, value := range values(field) {
				x := turned(c, field, value)
				if want := alike(c, x); Same(c, x) != want || Same(x, c) != want {
					t.Errorf("P1002: Same of %v and %v: %v, %v", c, x, Same(c, x), Same(x, c))
				}
				if !Same(x, x) {
					t.Errorf("P1002: %v is not the Same as itself", x)
				}
			}
		}
	}
}

func TestP1002SameOfPairs(t *testing.T) {
	all := slices.Concat(right(), outOfBounds()[:120], notNamed()[:400])
	for _, a := range all {
		for _, b := range all {
			if got, want := Same(a, b), alike(a, b); got != want {
				t.Fatalf("P1002: Same of %v and %v: %v", a, b, got)
			}
		}
	}
}

// TestP1002SameRecords holds Records against others of which one has another field, stands elsewhere, or is one more.
func TestP1002SameRecords(t *testing.T) {
	r := api.Record{Offset: 1, Time: 2, Key: "k", Value: "v"}
	lists := [][]api.Record{
		{}, {r}, {r, r}, {r, r, r}, {{}}, {{}, {}}, {{}, r}, {r, {}}, {r, {}, r}, {r, r, {}}, {{}, r, r},
		{{Offset: 2, Time: 2, Key: "k", Value: "v"}, r}, {{Offset: 1, Time: 3, Key: "k", Value: "v"}, r},
		{{Offset: 1, Time: 2, Key: "l", Value: "v"}, r}, {{Offset: 1, Time: 2, Key: "k", Value: "w"}, r},
		{{Offset: 1, Time: 2, Key: "k", Value: "v", Dead: true}, r},
		{r, {Offset: 2, Time: 2, Key: "k", Value: "v"}}, {r, {Offset: 1, Time: 3, Key: "k", Value: "v"}},
		{r, {Offset: 1, Time: 2, Key: "l", Value: "v"}}, {r, {Offset: 1, Time: 2, Key: "k", Value: "w"}},
		{r, {Offset: 1, Time: 2, Key: "k", Value: "v", Dead: true}}, {r, {Offset: 1, Time: 2, Key: "kv"}},
	}
	for _, base := range []api.Command{{}, {Kind: api.KProduce, Pid: 1}, {Kind: -7, Group: "g"}} {
		for i, l := range lists {
			for k, m := range lists {
				a, b := base, base
				a.Records, b.Records = l, slices.Clone(m)
				if got := Same(a, b); got != (i == k) {
					t.Errorf("P1002: Same of Records %v and %v: %v", l, m, got)
				}
			}
		}
		with, without := base, base
		with.Records = []api.Record{}
		if !Same(with, without) || !Same(without, with) {
			t.Errorf("P1002: no Records and an empty list are not the Same: %v", base)
		}
	}
}

// TestP1003LeavesWhatIsHandedIn fails if a call turns Records or bytes, or their spare room.
func TestP1003LeavesWhatIsHandedIn(t *testing.T) {
	for _, c := range slices.Concat(right(), outOfBounds(), notNamed()) {
		all := append(slices.Clone(c.Records), batchOf(3)...)
		was, kept := slices.Clone(all), c
		c.Records = all[:len(c.Records)]
		kept.Records = slices.Clone(c.Records)
		Right(c)
		Bytes(c)
		Same(c, kept)
		Same(kept, c)
		if !slices.Equal(all, was) || !alike(c, kept) {
			t.Fatalf("P1003: a call turned %v", kept)
		}
	}
	for _, c := range right() {
		for _, behind := range []string{"", "\x00\x01spare"} {
			b := slowBytes(c)
			for _, k := range []int{0, 1, len(b) / 2, len(b)} {
				room := append(slices.Clone(b), behind...)
				was := slices.Clone(room)
				Read(room[:k])
				if !bytes.Equal(room, was) {
					t.Fatalf("P1003: Read turned %q into %q", was, room)
				}
			}
		}
	}
}

// TestP1003BytesAnswersNewMemory fails if two answers, their spare room too, share memory.
func TestP1003BytesAnswersNewMemory(t *testing.T) {
	for _, c := range right() {
		first, second := Bytes(c), Bytes(c)
		for i := range second[:cap(second)] {
			second[:cap(second)][i] = 9
		}
		if !bytes.Equal(first, slowBytes(c)) || !bytes.Equal(Bytes(c), first) {
			t.Fatalf("P1003: Bytes of %v share memory", c)
		}
		clear(first[:cap(first)])
		if !Right(c) || !bytes.Equal(Bytes(c), slowBytes(c)) {
			t.Fatalf("P1003: Bytes share memory with %v", c)
		}
	}
}

// TestP1003ReadAnswersNewMemory fails if what is read stands in the bytes, or in what was read another time.
func TestP1003ReadAnswersNewMemory(t *testing.T) {
	for _, c := range right() {
		b := slowBytes(c)
		first, _ := Read(b)
		second, _ := Read(b)
		for i := range b[:cap(b)] {
			b[:cap(b)][i] = 9
		}
		clear(second.Records[:cap(second.Records)])
		if !alike(first, c) {
			t.Fatalf("P1003: what Read answered of %v became %v", c, first)
		}
		third, _ := Read(slowBytes(c))
		clear(first.Records[:cap(first.Records)])
		if !alike(third, c) {
			t.Fatalf("P1003: two answers of Read share memory: %v became %v", c, third)
		}
	}
}

// TestP1003SpareRoom fails if a call looks at what stands behind its list.
func TestP1003SpareRoom(t *testing.T) {
	for _, c := range bases() {
		b := slowBytes(c)
		for k := range b {
			got, e := Read(b[:k])
			want, wantE := Read(slices.Clone(b[:k]))
			if !alike(got, want) || e != wantE {
				t.Fatalf("P1003: Read saw spare room behind %d bytes of %v: %v, %d", k, c, got, e)
			}
		}
	}
	l := batchOf(50)
	for n := range l {
		c, d := api.Command{Kind: api.KProduce, Records: l[:n]}, api.Command{Kind: api.KProduce, Records: slices.Clone(l[:n])}
		if Right(c) != Right(d) || !bytes.Equal(Bytes(c), Bytes(d)) || !Same(c, d) {
			t.Fatalf("P1003: a call saw spare room behind %d records", n)
		}
	}
}

// TestP1003ArgumentsAlone asks the same again with other calls between.
func TestP1003ArgumentsAlone(t *testing.T) {
	some := slices.Concat(bases(), outOfBounds()[:60], notNamed()[:60])
	for _, c := range some {
		want := slowRight(c)
		for _, between := range some {
			Right(between)
			Bytes(between)
			Same(between, c)
			Read(slowBytes(between))
			if Right(c) != want || !Same(c, c) {
				t.Fatalf("P1003: Right of %v, asked again: %v", c, !want)
			}
			if b := Bytes(c); want != bytes.Equal(b, slowBytes(c)) || !want && len(b) > 0 {
				t.Fatalf("P1003: Bytes of %v, asked again: %q", c, b)
			}
			if back, e := Read(Bytes(c)); want != (e == api.OK) || want && !alike(back, c) {
				t.Fatalf("P1003: Read of %v, asked again: %v, %d", c, back, e)
			}
		}
	}
}

// TestP1003KeepsNothing asks many at one time: what one call kept would be met by another.
func TestP1003KeepsNothing(t *testing.T) {
	all := slices.Concat(right(), outOfBounds(), notNamed())
	var group sync.WaitGroup
	for k := range 8 {
		group.Go(func() {
			for i := range 2000 {
				c := all[(i*(2*k+1)+k)%len(all)]
				want := slowRight(c)
				if Right(c) != want || !Same(c, c) || (len(Bytes(c)) > 0) != want {
					t.Errorf("P1003: of %v, asked beside others", c)
				}
				if back, e := Read(slowBytes(c)); want && (e != api.OK || !alike(back, c)) {
					t.Errorf("P1003: Read of %v, asked beside others: %v, %d", c, back, e)
				}
			}
		})
	}
	group.Wait()
}
