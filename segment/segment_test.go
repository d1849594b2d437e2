package segment

import (
	"encoding/binary"
	"hash/crc32"
	"math"
	"slices"
	"strings"
	"sync"
	"testing"

	"cooperage/api"
	"cooperage/frame"
	"cooperage/record"
)

const (
	topOffset = 1125899906842624 // 2^50
	topTime   = 1099511627776    // 2^40
)

func text(n int) string { return strings.Repeat("t", n) }

// framed writes a piece by the library's numbers and sums.
func framed(piece string) string {
	b := binary.AppendUvarint(nil, uint64(len(piece)))
	b = binary.BigEndian.AppendUint32(b, crc32.ChecksumIEEE([]byte(piece)))
	return string(b) + piece
}

// written writes a record by the library's numbers, whether it is right or not.
func written(r api.Record) string {
	b := binary.AppendUvarint(nil, uint64(r.Offset))
	b = binary.AppendVarint(b, int64(r.Time))
	dead := "\x00"
	if r.Dead {
		dead = "\x01"
	}
	key := string(binary.AppendUvarint(nil, uint64(len(r.Key)))) + r.Key
	return string(b) + dead + key + string(binary.AppendUvarint(nil, uint64(len(r.Value)))) + r.Value
}

// slowBytes says P801's sentence of Bytes, of records that are all right.
func slowBytes(l []api.Record) string {
	out := strings.Builder{}
	for _, r := range l {
		out.WriteString(framed(written(r)))
	}
	return out.String()
}

// slowScan says P801's sentence of Scan by all the frames at once: it takes away those from the first wrong one on.
func slowScan(b []byte) ([]api.Record, int) {
	pieces, _ := frame.All(b)
	l, size := []api.Record{}, 0
	for _, piece := range pieces {
		r, n, e := record.Get(piece)
		still := len(l) > 0 && r.Offset <= l[len(l)-1].Offset
		if e != api.OK || n < len(piece) || still {
			return l, size
		}
		l, size = append(l, r), size+len(framed(string(piece)))
	}
	return l, size
}

// slowFrom says P801's sentence of From: those of that Offset, and then the first ones of these.
func slowFrom(l []api.Record, offset, most int) []api.Record {
	out := slices.DeleteFunc(slices.Clone(l), func(r api.Record) bool { return r.Offset < offset })
	return out[:min(len(out), max(most, 0))]
}

// checkScan fails if Scan of s is not l and size, or if Read of s is not what that asks for.
func checkScan(t *testing.T, s string, l []api.Record, size int) {
	t.Helper()
	b := []byte(s)
	if got, n := Scan(b[:len(b):len(b)]); !slices.Equal(got, l) || n != size {
		t.Fatalf("P801: Scan %.60q: %v, %d, want %v, %d", s, got, n, l, size)
	}
	got, e := Read(b[:len(b):len(b)])
	if size == len(s) && (e != api.OK || !slices.Equal(got, l)) {
		t.Fatalf("P801: Read %.60q: %v, %d, want %v", s, got, e, l)
	}
	if size != len(s) && (e != api.ErrSum || len(got) != 0) {
		t.Fatalf("P801: Read %.60q, of which Scan has %d bytes: %v, %d", s, size, got, e)
	}
}

// kinds are records with Values and without, dead ones, and each field at its edges, by rising Offsets.
func kinds() []api.Record {
	return []api.Record{
		{Key: "a"},
		{Offset: 1, Time: 5, Key: "a", Value: "v"},
		{Offset: 2, Time: -5, Key: "a", Dead: true},
		{Offset: 4, Time: topTime, Key: "\x00", Value: "\x00\xff"},
		{Offset: 127, Time: -topTime, Key: "é\xff", Value: text(127)},
		{Offset: 128, Key: text(200), Value: text(2000)},
		{Offset: 300, Time: 64, Key: text(128), Dead: true},
		// A frame and a record may stand in a Value, too.
		{Offset: 1 << 31, Key: "k", Value: framed(written(api.Record{Offset: 9, Key: "in"}))},
		{Offset: topOffset - 1, Time: 1, Key: "k", Value: "last but one"},
		{Offset: topOffset, Time: -1, Key: "k", Value: "last"},
	}
}

// rows are lists of right records by rising Offsets: none, one of each kind, many.
func rows() [][]api.Record {
	all := kinds()
	out := [][]api.Record{nil, {}, all, all[:3], all[2:5], all[7:]}
	for i := range all {
		out = append(out, all[i:i+1])
	}
	return append(out, offsets(0, 1, 2, 3, 4, 5), offsets(7, 8, 10, 100, 1000, 1001, topOffset))
}

// offsets are records with these Offsets.
func offsets(l ...int) []api.Record {
	out := []api.Record{}
	for i, n := range l {
		out = append(out, api.Record{Offset: n, Time: -i, Key: "key", Value: text(i)})
	}
	return out
}

// wrong are records that are not right, with one fault each, and one with all of them.
func wrong() []api.Record {
	return []api.Record{
		{},
		{Offset: 3, Time: 1, Value: "v"},
		{Offset: 3, Dead: true},
		{Offset: 3, Key: text(201)},
		{Offset: 3, Key: "a", Value: text(2001)},
		{Offset: 3, Key: "a", Value: "v", Dead: true},
		{Offset: 3, Key: "a", Time: topTime + 1},
		{Offset: 3, Key: "a", Time: -topTime - 1},
		{Offset: topOffset + 1, Key: "a"},
		{Offset: math.MaxInt, Key: "a"},
		{Offset: -1, Key: "a"},
		{Offset: math.MinInt, Key: "a"},
		{Offset: -1, Time: math.MinInt, Key: text(201), Value: text(2001), Dead: true},
	}
}

func TestP801BytesWritten(t *testing.T) {
	for _, c := range []struct {
		l    []api.Record
		want string
	}{
		{nil, ""},
		{[]api.Record{}, ""},
		{[]api.Record{{Key: "a"}}, "\x06\xcc\xe6\x91\x72\x00\x00\x00\x01a\x00"},
		{[]api.Record{{Key: "a", Dead: true}}, "\x06\x74\x5a\xf6\x17\x00\x00\x01\x01a\x00"},
		{[]api.Record{{Offset: 300, Time: -5, Key: "k", Value: "\x00"}}, "\x08\xcd\x75\x1f\xae\xac\x02\x09\x00\x01k\x01\x00"},
		{[]api.Record{{Key: "a"}, {Offset: 300, Time: -5, Key: "k", Value: "\x00"}}, "\x06\xcc\xe6\x91\x72\x00\x00\x00\x01a\x00" + "\x08\xcd\x75\x1f\xae\xac\x02\x09\x00\x01k\x01\x00"},
	} {
		if got := Bytes(c.l); string(got) != c.want {
			t.Errorf("P801: Bytes %v: %v, want %v", c.l, got, []byte(c.want))
		}
		checkScan(t, c.want, c.l, len(c.want))
	}
}

// TestP801ScanOfBytes holds the document's example: Scan of Bytes is the records, and all bytes.
func TestP801ScanOfBytes(t *testing.T) {
	for _, l := range rows() {
		b := Bytes(l)
		if string(b) != slowBytes(l) {
			t.Fatalf("P801: Bytes %v: %v, want %v", l, b, []byte(slowBytes(l)))
		}
		checkScan(t, string(b), l, len(b))
	}
}

// TestP801LongRow holds of many records; it would not end soon if all that is written were copied for each one.
func TestP801LongRow(t *testing.T) {
	l := []api.Record{}
	for n := range 200000 {
		l = append(l, api.Record{Offset: 3 * n, Time: n, Key: "key", Value: "value"})
	}
	b := Bytes(l)
	if string(b) != slowBytes(l) {
		t.Fatalf("P801: Bytes of %d records: %d bytes, want %d", len(l), len(b), len(slowBytes(l)))
	}
	if got, n := Scan(b); !slices.Equal(got, l) || n != len(b) {
		t.Errorf("P801: Scan of %d records: %d, and %d of %d bytes", len(l), len(got), n, len(b))
	}
	if got, e := Read(b); !slices.Equal(got, l) || e != api.OK {
		t.Errorf("P801: Read of %d records: %d, %d", len(l), len(got), e)
	}
	if got, e := Read(b[:len(b)-1]); len(got) != 0 || e != api.ErrSum {
		t.Errorf("P801: Read of %d records without the last byte: %d, %d", len(l), len(got), e)
	}
	if got := From(l, 300000, 50000); !slices.Equal(got, l[100000:150000]) {
		t.Errorf("P801: From of %d records: %d", len(l), len(got))
	}
}

func TestP801BytesLeavesOutNotRight(t *testing.T) {
	for _, l := range [][]api.Record{nil, kinds()[:1], kinds()[1:4], offsets(2, 3, 4)} {
		want := slowBytes(l)
		for _, r := range wrong() {
			for at := range len(l) + 1 {
				mixed := slices.Insert(slices.Clone(l), at, r)
				if got := Bytes(mixed); string(got) != want {
					t.Fatalf("P801: Bytes %v: %v, want %v", mixed, got, []byte(want))
				}
			}
			two := slices.Concat([]api.Record{r, r}, l, []api.Record{r, r})
			if got := Bytes(two); string(got) != want {
				t.Fatalf("P801: Bytes %v: %v, want %v", two, got, []byte(want))
			}
		}
	}
	if got := Bytes(wrong()); len(got) != 0 {
		t.Errorf("P801: Bytes of records of which none is right: %v", got)
	}
}

// TestP801BytesInAnyRow fails if Bytes asks for more than that a record is right.
func TestP801BytesInAnyRow(t *testing.T) {
	back := kinds()
	slices.Reverse(back)
	for _, l := range [][]api.Record{back, offsets(3, 3), offsets(3, 2), offsets(0, 0, 0), offsets(5, 1, 6, 0, 6), offsets(topOffset, 0)} {
		if got := Bytes(l); string(got) != slowBytes(l) {
			t.Errorf("P801: Bytes %v: %v, want %v", l, got, []byte(slowBytes(l)))
		}
	}
}

// TestP801OffsetsThatDoNotRise fails if a record that is not above the one ahead is told, or one behind it that would be.
func TestP801OffsetsThatDoNotRise(t *testing.T) {
	for _, c := range []struct {
		l    []int
		want int
	}{
		{[]int{0}, 1},
		{[]int{topOffset}, 1},
		{[]int{0, 1, 2}, 3},
		{[]int{0, 2, 3, 9, 1000, topOffset}, 6},
		{[]int{0, 0}, 1},
		{[]int{3, 3}, 1},
		{[]int{3, 2}, 1},
		{[]int{1, 0}, 1},
		{[]int{topOffset, topOffset}, 1},
		{[]int{topOffset, 0}, 1},
		{[]int{3, 3, 4, 5}, 1},
		{[]int{3, 2, 4, 5}, 1},
		{[]int{0, 1, 1, 2}, 2},
		{[]int{0, 1, 0, 2}, 2},
		{[]int{0, 5, 3, 4, 6}, 2},
		{[]int{0, 1, 2, 2}, 3},
		{[]int{0, 1, 2, 1}, 3},
		{[]int{5, 6, 8, 0, 1, 2}, 3},
	} {
		l := offsets(c.l...)
		checkScan(t, slowBytes(l), l[:c.want], len(slowBytes(l[:c.want])))
	}
}

// TestP801Torn cuts rows off at every place, with and without what was cut off as spare room.
func TestP801Torn(t *testing.T) {
	for _, l := range rows() {
		s := slowBytes(l)
		whole, end := 0, 0
		for k := range len(s) + 1 {
			if whole < len(l) && k == end+len(framed(written(l[whole]))) {
				whole, end = whole+1, k
			}
			checkScan(t, s[:k], l[:whole], end)
			b := []byte(s)
			if got, n := Scan(b[:k]); !slices.Equal(got, l[:whole]) || n != end {
				t.Fatalf("P801: Scan of %d of %d bytes saw spare room: %v, %d", k, len(s), got, n)
			}
			if _, e := Read(b[:k]); (e == api.OK) != (k == end) {
				t.Fatalf("P801: Read of %d of %d bytes saw spare room: %d", k, len(s), e)
			}
		}
		if whole != len(l) {
			t.Fatalf("%d of %d records were tried", whole, len(l))
		}
	}
}

// TestP801TurnedBit turns every bit of some rows: what stands ahead of its frame is told, and nothing from there on.
func TestP801TurnedBit(t *testing.T) {
	for _, l := range [][]api.Record{kinds()[:5], kinds()[6:], offsets(0, 1, 2), offsets(5)} {
		b := []byte(slowBytes(l))
		whole, end := 0, 0
		for i := range b {
			if i == end+len(framed(written(l[whole]))) {
				whole, end = whole+1, i
			}
			for k := range 8 {
				b[i] ^= 1 << k
				checkScan(t, string(b), l[:whole], end)
				b[i] ^= 1 << k
			}
		}
	}
}

// wrongFrames are bytes that no record comes from, though what stands behind them may be right.
func wrongFrames() []string {
	r, next := written(api.Record{Offset: 10, Key: "k", Value: "v"}), written(api.Record{Offset: 11, Key: "k"})
	out := []string{
		framed(""),
		framed("x"),
		framed("\x00"),
		framed("\xff"),
		framed(strings.Repeat("\x80", 10)),
		framed(text(300)),
		framed(r + "\x00"),
		framed("\x00" + r),
		framed(r + "x"),
		framed(r + text(300)),
		framed(r + next),
		framed(r + r),
		framed(framed(r)),
		framed(r[1:]),
		framed(r[:1]),
		framed(r[:len(r)-1]),
		framed("\x8a\x00" + r[1:]),
		framed("\x0a\x00\x02" + r[3:]),
		"\x80\x80\x00" + framed(r),
		r,
	}
	for _, r := range wrong() {
		out = append(out, framed(written(r)))
	}
	return out
}

func TestP801WrongFrames(t *testing.T) {
	front, behind := offsets(1, 4, 9), slowBytes(offsets(20, 21))
	whole := slowBytes(front)
	for _, s := range wrongFrames() {
		checkScan(t, s, nil, 0)
		checkScan(t, s+behind, nil, 0)
		checkScan(t, whole+s, front, len(whole))
		checkScan(t, whole+s+behind, front, len(whole))
	}
}

func TestP801BytesBehind(t *testing.T) {
	low, high := strings.Repeat("\x80", 9), strings.Repeat("\xff", 9)
	for _, behind := range []string{
		"\x00", "\x05", "\x7f", "\x80", "\xff", "x", "\x80\x00", "\x00\x00", "\x00\x00\x00\x00", "\x00\x00\x00\x00\x01",
		"\x81\x80\x80\x08", "\x80\x80\x80\x08", "\x03\x35\x24\x41\xc2ab", "\x03\x35\x24\x41\xc2abd",
		low, low + "\x00", low + "\x01", high + "\x01", high + "\x02", low + "\x80", text(500), strings.Repeat("\x00", 500),
	} {
		for _, l := range rows() {
			s := slowBytes(l)
			checkScan(t, s+behind, l, len(s))
		}
	}
}

func TestP801OfNoBytes(t *testing.T) {
	for _, b := range [][]byte{nil, {}, []byte(slowBytes(kinds()))[:0]} {
		if l, n := Scan(b); len(l) != 0 || n != 0 {
			t.Errorf("P801: Scan of no bytes: %v, %d", l, n)
		}
		if l, e := Read(b); len(l) != 0 || e != api.OK {
			t.Errorf("P801: Read of no bytes: %v, %d", l, e)
		}
	}
}

// TestP801ScanOfMany reads rows of frames of which some are wrong, in all places.
func TestP801ScanOfMany(t *testing.T) {
	frames := wrongFrames()
	for n := range 200 {
		frames = append(frames, framed(written(api.Record{Offset: n, Time: n - 9, Key: "k", Value: text(n % 7), Dead: n%7 == 0})))
	}
	right, longest := 0, 0
	x := uint32(11)
	for n := range 6000 {
		b, at := "", uint32(0)
		for range n % 12 {
			x = x*1664525 + 1013904223
			// Mostly a frame somewhat behind the one ahead, now and then any other one.
			at = min(at+x>>16%9, uint32(len(frames)-1))
			if x>>28 == 0 {
				at = x >> 8 % uint32(len(frames))
			}
			if n%3 > 0 {
				at = max(at, uint32(len(wrongFrames())))
			}
			b += frames[at]
		}
		l, size := slowScan([]byte(b))
		checkScan(t, b, l, size)
		longest = max(longest, len(l))
		if size == len(b) {
			right++
		}
	}
	if right < 1000 || right > 5000 || longest < 8 {
		t.Fatalf("%d rows were right, the most records were %d: too few kinds were tried", right, longest)
	}
}

func TestP801FromEdges(t *testing.T) {
	l := offsets(2, 3, 7, 300)
	for _, c := range []struct {
		offset, max int
		from, to    int
	}{
		{0, 9, 0, 4},
		{1, 9, 0, 4},
		{-1, 9, 0, 4},
		{math.MinInt, 9, 0, 4},
		{2, 9, 0, 4},
		{3, 9, 1, 4},
		{4, 9, 2, 4},
		{6, 9, 2, 4},
		{7, 9, 2, 4},
		{8, 9, 3, 4},
		{300, 9, 3, 4},
		{301, 9, 4, 4},
		{topOffset, 9, 4, 4},
		{math.MaxInt, 9, 4, 4},
		{0, 0, 0, 0},
		{3, 0, 0, 0},
		{0, -1, 0, 0},
		{3, math.MinInt, 0, 0},
		{0, 1, 0, 1},
		{3, 1, 1, 2},
		{5, 1, 2, 3},
		{3, 2, 1, 3},
		{3, 3, 1, 4},
		{3, 4, 1, 4},
		{0, 3, 0, 3},
		{0, 4, 0, 4},
		{0, 5, 0, 4},
		{0, math.MaxInt, 0, 4},
		{7, math.MaxInt, 2, 4},
		{-9, 1, 0, 1},
		{math.MinInt, math.MaxInt, 0, 4},
	} {
		if got := From(l, c.offset, c.max); !slices.Equal(got, l[c.from:c.to]) {
			t.Errorf("P801: From %d, %d: %v, want %v", c.offset, c.max, got, l[c.from:c.to])
		}
	}
	for _, l := range [][]api.Record{nil, {}} {
		if got := From(l, 0, 9); len(got) != 0 {
			t.Errorf("P801: From of no records: %v", got)
		}
	}
}

// TestP801FromInAnyRow fails if From asks for more than an Offset, or answers in another order than that of the list.
func TestP801FromInAnyRow(t *testing.T) {
	back := kinds()
	slices.Reverse(back)
	for _, l := range [][]api.Record{
		kinds(), back, wrong(), append(wrong(), kinds()...), offsets(5, 1, 6, 0), offsets(3, 3, 2, 3, 4, 3), offsets(-5, 0, -6, math.MinInt, math.MaxInt, -5), offsets(9),
	} {
		places := []int{math.MinInt, -7, 0, topOffset, math.MaxInt}
		for _, r := range l {
			places = append(places, r.Offset-1, r.Offset, r.Offset+1)
		}
		for _, offset := range places {
			for most := -2; most < len(l)+3; most++ {
				if got, want := From(l, offset, most), slowFrom(l, offset, most); !slices.Equal(got, want) {
					t.Fatalf("P801: From %v, %d, %d: %v, want %v", l, offset, most, got, want)
				}
			}
		}
	}
}

// wipe turns all of l, its spare room too.
func wipe(l []api.Record) {
	for i := range l[:cap(l)] {
		l[:cap(l)][i] = api.Record{Offset: 77, Key: "wiped"}
	}
}

// roomy answers a list of l's records with others in its spare room, and one more of all of them.
func roomy(l []api.Record) (list, all []api.Record) {
	all = append(slices.Clone(l), offsets(9000, 9001, 9002)...)
	return slices.Clone(all)[:len(l)], all
}

func TestP802BytesLeavesWhatIsHandedIn(t *testing.T) {
	for _, l := range append(rows(), wrong(), append(wrong(), kinds()...)) {
		list, all := roomy(l)
		first, second := Bytes(list), Bytes(list)
		if !slices.Equal(list[:len(all)], all) {
			t.Fatalf("P802: Bytes turned %v into %v", all, list[:len(all)])
		}
		want := string(first)
		wipe(list)
		for i := range second[:cap(second)] {
			second[:cap(second)][i] = 8
		}
		if string(first) != want {
			t.Fatalf("P802: Bytes of %v shares memory: %v", l, first)
		}
	}
}

// TestP802ScanAnswersNewMemory fails if Scan or Read turns its bytes, or if what they answer stands in these or in another answer.
func TestP802ScanAnswersNewMemory(t *testing.T) {
	ends := append(wrongFrames(), "", "\x80", slowBytes(offsets(0)))
	for _, l := range rows() {
		for _, end := range ends {
			s := slowBytes(l)
			b := []byte(s + end + "spare")
			size := len(s) + len(end)
			want, _ := slowScan(b[:size])
			first, _ := Scan(b[:size])
			second, _ := Scan(b[:size])
			third, _ := Read(b[:size])
			if string(b) != s+end+"spare" {
				t.Fatalf("P802: %q became %q", s+end+"spare", b)
			}
			wipe(second)
			wipe(third)
			for i := range b {
				b[i] = 'z'
			}
			if !slices.Equal(first, want) {
				t.Fatalf("P802: what Scan answered of %.60q became %v", s+end, first)
			}
		}
		b := []byte(slowBytes(l))
		got, _ := Read(b)
		for i := range b {
			b[i] = 'z'
		}
		if !slices.Equal(got, l) {
			t.Fatalf("P802: what Read answered of %v became %v", l, got)
		}
	}
}

// TestP802FromAnswersNewMemory fails if an answer, its spare room too, is shared with the list or with another answer.
func TestP802FromAnswersNewMemory(t *testing.T) {
	for _, l := range append(rows(), wrong()) {
		for _, offset := range []int{math.MinInt, 0, 1, 128, topOffset + 9} {
			for _, most := range []int{-1, 0, 1, 2, len(l), len(l) + 1, math.MaxInt} {
				list, all := roomy(l)
				want := slowFrom(l, offset, most)
				first, second := From(list, offset, most), From(list, offset, most)
				wipe(second)
				if !slices.Equal(list[:len(all)], all) || !slices.Equal(first, want) {
					t.Fatalf("P802: From %d, %d of %v: a write to its answer turned something else", offset, most, l)
				}
				wipe(list)
				if !slices.Equal(first, want) {
					t.Fatalf("P802: what From %d, %d answered became %v, want %v", offset, most, first, want)
				}
			}
		}
	}
}

// TestP802ArgumentsAlone asks the same again with other calls between, and with other spare room.
func TestP802ArgumentsAlone(t *testing.T) {
	for _, l := range rows() {
		s := slowBytes(l)
		for _, between := range append(rows(), wrong()) {
			Bytes(between)
			Scan([]byte(slowBytes(between) + "\x05"))
			Read([]byte(slowBytes(between) + "\x05"))
			From(between, 3, 2)
			list, _ := roomy(l)
			if got := Bytes(list); string(got) != s {
				t.Fatalf("P802: Bytes of %v, asked again: %v", l, got)
			}
			if got := From(list, 2, 3); !slices.Equal(got, slowFrom(l, 2, 3)) {
				t.Fatalf("P802: From of %v, asked again: %v", l, got)
			}
			b := []byte(s + slowBytes(offsets(topOffset)))[:len(s)]
			if got, n := Scan(b); !slices.Equal(got, l) || n != len(b) {
				t.Fatalf("P802: Scan of %v, asked again: %v, %d", l, got, n)
			}
			if got, e := Read(b); !slices.Equal(got, l) || e != api.OK {
				t.Fatalf("P802: Read of %v, asked again: %v, %d", l, got, e)
			}
		}
	}
}

// TestP802KeepsNothing asks many at one time: what one call kept would be met by another.
func TestP802KeepsNothing(t *testing.T) {
	all := rows()
	var group sync.WaitGroup
	for k := range 8 {
		group.Go(func() {
			for i := range 200 {
				l := all[(i*(2*k+1)+k)%len(all)]
				s := slowBytes(l)
				if got := Bytes(l); string(got) != s {
					t.Errorf("P802: Bytes of %v, asked beside others", l)
				}
				if got, n := Scan([]byte(s + "\x80")); !slices.Equal(got, l) || n != len(s) {
					t.Errorf("P802: Scan of %v, asked beside others: %v, %d", l, got, n)
				}
				if got, e := Read([]byte(s)); !slices.Equal(got, l) || e != api.OK {
					t.Errorf("P802: Read of %v, asked beside others: %v, %d", l, got, e)
				}
				if got := From(l, i, k); !slices.Equal(got, slowFrom(l, i, k)) {
					t.Errorf("P802: From %d, %d of %v, asked beside others: %v", i, k, l, got)
				}
			}
		})
	}
	group.Wait()
}
