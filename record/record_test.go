package record

import (
	"bytes"
	"encoding/binary"
	"math"
	"strings"
	"sync"
	"testing"

	"cooperage/api"
)

const (
	topOffset = 1125899906842624 // 2^50
	topTime   = 1099511627776    // 2^40
)

func text(n int) string { return strings.Repeat("t", n) }

// slowPut says P401's sentence of Put by the library's numbers, without Right.
func slowPut(r api.Record) []byte {
	b := binary.AppendUvarint(nil, uint64(r.Offset))
	b = binary.AppendVarint(b, int64(r.Time))
	if r.Dead {
		b = append(b, 1)
	} else {
		b = append(b, 0)
	}
	b = append(binary.AppendUvarint(b, uint64(len(r.Key))), r.Key...)
	return append(binary.AppendUvarint(b, uint64(len(r.Value))), r.Value...)
}

// slowNumber is P101's Get by the library's.
func slowNumber(b []byte) (uint64, int, api.Errno) {
	x, n := binary.Uvarint(b)
	switch {
	case n < 0, n == 0 && len(b) >= 10:
		return 0, 0, api.ErrLong
	case n == 0:
		return 0, 0, api.ErrShort
	case n > 1 && b[n-1] == 0:
		return 0, 0, api.ErrSyntax
	}
	return x, n, api.OK
}

// slowText reads a length and its text, from at on; it answers where they end.
func slowText(b []byte, at int, most uint64) (string, int, api.Errno) {
	x, n, e := slowNumber(b[at:])
	if e != api.OK {
		return "", 0, e
	}
	if x > most {
		return "", 0, api.ErrSyntax
	}
	from, end := at+n, at+n+int(x)
	if end > len(b) {
		return "", 0, api.ErrShort
	}
	return string(b[from:end]), end, api.OK
}

// slowGet says P401's sentence of Get, step by step.
func slowGet(b []byte) (api.Record, int, api.Errno) {
	none := api.Record{}
	offset, at, e := slowNumber(b)
	if e != api.OK {
		return none, 0, e
	}
	if offset > topOffset {
		return none, 0, api.ErrSyntax
	}
	_, n, e := slowNumber(b[at:])
	if e != api.OK {
		return none, 0, e
	}
	time, _ := binary.Varint(b[at:])
	if time < -topTime || time > topTime {
		return none, 0, api.ErrSyntax
	}
	at += n
	if at == len(b) {
		return none, 0, api.ErrShort
	}
	if b[at] != 0 && b[at] != 1 {
		return none, 0, api.ErrSyntax
	}
	dead := b[at] == 1
	key, at, e := slowText(b, at+1, 200)
	if e != api.OK {
		return none, 0, e
	}
	value, at, e := slowText(b, at, 2000)
	if e != api.OK {
		return none, 0, e
	}
	if key == "" || dead && value != "" {
		return none, 0, api.ErrSyntax
	}
	return api.Record{Offset: int(offset), Time: int(time), Key: key, Value: value, Dead: dead}, at, api.OK
}

func checkGet(t *testing.T, b []byte) {
	t.Helper()
	r, n, e := Get(b)
	wantR, wantN, wantE := slowGet(b)
	if r != wantR || n != wantN || e != wantE {
		t.Fatalf("P401: Get %v: %v, %d, %d, want %v, %d, %d", b, r, n, e, wantR, wantN, wantE)
	}
}

// right are records that may be written: each edge of each field with those of the others.
func right() []api.Record {
	out := []api.Record{}
	for _, offset := range []int{0, 1, 127, 128, 300, topOffset - 1, topOffset} {
		for _, time := range []int{-topTime, 1 - topTime, -65, -64, -1, 0, 1, 63, 64, topTime - 1, topTime} {
			for _, key := range []string{"a", "\x00", "é\xff", text(127), text(128), text(199), text(200)} {
				out = append(out, api.Record{Offset: offset, Time: time, Key: key, Dead: true})
				for _, value := range []string{"", "v", "\x00\x01\x80", text(127), text(128), text(2000)} {
					out = append(out, api.Record{Offset: offset, Time: time, Key: key, Value: value})
				}
			}
		}
	}
	return out
}

// wrong are records with one fault each, and some with all of them.
func wrong() []api.Record {
	return []api.Record{
		{},
		{Offset: 1, Time: 1, Value: "v"},
		{Dead: true},
		{Key: text(201)},
		{Key: text(1 << 16)},
		{Key: text(201), Dead: true},
		{Key: "a", Value: text(2001)},
		{Key: "a", Value: text(1 << 16)},
		{Key: "a", Value: "v", Dead: true},
		{Key: "a", Value: "\x00", Dead: true},
		{Key: "a", Value: text(2000), Dead: true},
		{Key: "a", Offset: -1},
		{Key: "a", Offset: math.MinInt},
		{Key: "a", Offset: topOffset + 1},
		{Key: "a", Offset: math.MaxInt},
		{Key: "a", Time: topTime + 1},
		{Key: "a", Time: math.MaxInt},
		{Key: "a", Time: -topTime - 1},
		{Key: "a", Time: math.MinInt},
		{Offset: -1, Time: topTime + 1, Key: text(201), Value: text(2001), Dead: true},
	}
}

func TestP401RightAtEdges(t *testing.T) {
	if api.MaxTime != topTime || api.MaxKey != 200 || api.MaxValue != 2000 {
		t.Fatalf("limits of api: %d, %d, %d", api.MaxTime, api.MaxKey, api.MaxValue)
	}
	for _, r := range right() {
		if !Right(r) {
			t.Errorf("P401: not Right: %v", r)
		}
	}
	for _, r := range wrong() {
		if Right(r) {
			t.Errorf("P401: Right: %v", r)
		}
	}
}

func TestP401RightOfLengths(t *testing.T) {
	for n := range 2100 {
		if got, want := Right(api.Record{Key: text(n)}), n >= 1 && n <= 200; got != want {
			t.Errorf("P401: Right of a Key of %d bytes: %v", n, got)
		}
		if got, want := Right(api.Record{Key: "a", Value: text(n)}), n <= 2000; got != want {
			t.Errorf("P401: Right of a Value of %d bytes: %v", n, got)
		}
		if got, want := Right(api.Record{Key: "a", Value: text(n), Dead: true}), n == 0; got != want {
			t.Errorf("P401: Right of a Dead one with a Value of %d bytes: %v", n, got)
		}
	}
	// A length is one of bytes, not of runes.
	if !Right(api.Record{Key: strings.Repeat("é", 100)}) || Right(api.Record{Key: strings.Repeat("é", 101)}) {
		t.Error("P401: Right of a Key of runes of two bytes")
	}
	if !Right(api.Record{Key: "a", Value: strings.Repeat("é", 1000)}) || Right(api.Record{Key: "a", Value: strings.Repeat("é", 1001)}) {
		t.Error("P401: Right of a Value of runes of two bytes")
	}
}

func TestP401PutWritten(t *testing.T) {
	for _, c := range []struct {
		r    api.Record
		want string
	}{
		{api.Record{Key: "a"}, "\x00\x00\x00\x01a\x00"},
		{api.Record{Key: "a", Dead: true}, "\x00\x00\x01\x01a\x00"},
		{api.Record{Offset: 300, Time: -5, Key: "k", Value: "\x00"}, "\xac\x02\x09\x00\x01k\x01\x00"},
		{api.Record{Offset: 1, Time: 1, Key: "é\xff", Value: "vw"}, "\x01\x02\x00\x03é\xff\x02vw"},
		{api.Record{Offset: 127, Time: 64, Key: "a", Value: "v"}, "\x7f\x80\x01\x00\x01a\x01v"},
		{api.Record{Offset: topOffset, Time: topTime, Key: "a"}, "\x80\x80\x80\x80\x80\x80\x80\x02\x80\x80\x80\x80\x80\x40\x00\x01a\x00"},
		{api.Record{Time: -topTime, Key: "a"}, "\x00\xff\xff\xff\xff\xff\x3f\x00\x01a\x00"},
		{api.Record{Key: text(200), Value: text(2000)}, "\x00\x00\x00\xc8\x01" + text(200) + "\xd0\x0f" + text(2000)},
	} {
		if got := Put(nil, c.r); string(got) != c.want {
			t.Errorf("P401: Put %v: %v, want %v", c.r, got, []byte(c.want))
		}
		if got := Size(c.r); got != len(c.want) {
			t.Errorf("P401: Size %v: %d, want %d", c.r, got, len(c.want))
		}
		if r, n, e := Get([]byte(c.want)); r != c.r || n != len(c.want) || e != api.OK {
			t.Errorf("P401: Get %q: %v, %d, %d, want %v", c.want, r, n, e, c.r)
		}
	}
}

func TestP401PutAndSizeAtEdges(t *testing.T) {
	for _, r := range right() {
		want := string(slowPut(r))
		for _, front := range []string{"", "x", "\x00\x80\xff", text(500)} {
			if got := Put([]byte(front), r); string(got) != front+want {
				t.Fatalf("P401: Put %v behind %q: %v, want %v", r, front, got, []byte(want))
			}
		}
		if got := Size(r); got != len(want) {
			t.Fatalf("P401: Size %v: %d, want %d", r, got, len(want))
		}
	}
}

func TestP401PutAndSizeOfWrong(t *testing.T) {
	for _, r := range wrong() {
		for _, front := range []string{"", "x", "\x00\x80\xff", text(500)} {
			if got := Put([]byte(front), r); string(got) != front {
				t.Errorf("P401: Put %v behind %q: %v", r, front, got)
			}
		}
		if got := Put(nil, r); len(got) != 0 {
			t.Errorf("P401: Put %v: %v", r, got)
		}
		if got := Size(r); got != 0 {
			t.Errorf("P401: Size %v: %d", r, got)
		}
	}
}

func TestP401GetTurnsPutBack(t *testing.T) {
	for _, r := range right() {
		b := slowPut(r)
		for _, behind := range []string{"", "\x00", "\x07", "\xff", "\x00\x00\x00\x01b\x00"} {
			if got, n, e := Get(append(b[:len(b):len(b)], behind...)); got != r || n != len(b) || e != api.OK {
				t.Fatalf("P401: Get of %v with %q behind: %v, %d, %d", r, behind, got, n, e)
			}
		}
	}
}

// TestP401GetInARow reads many records one behind the other by their counts of bytes.
func TestP401GetInARow(t *testing.T) {
	all := right()
	b := []byte{}
	for _, r := range all {
		b = append(b, slowPut(r)...)
	}
	for i, want := range all {
		r, n, e := Get(b)
		if r != want || e != api.OK {
			t.Fatalf("P401: Get of the record %d: %v, %d, want %v", i, r, e, want)
		}
		b = b[n:]
	}
	if len(b) != 0 {
		t.Errorf("P401: %d bytes are left", len(b))
	}
}

func TestP401GetEveryFront(t *testing.T) {
	for _, r := range []api.Record{
		{Key: "a"},
		{Key: "a", Dead: true},
		{Offset: 300, Time: -5, Key: "k", Value: "\x00"},
		{Offset: topOffset, Time: topTime, Key: text(200), Value: text(2000)},
		{Offset: topOffset, Time: -topTime, Key: text(200), Dead: true},
	} {
		b := Put(nil, r)
		for k := range b {
			if got, n, e := Get(b[:k:k]); got != (api.Record{}) || n != 0 || e != api.ErrShort {
				t.Fatalf("P401: Get of %d of the bytes of %v: %v, %d, %d", k, r, got, n, e)
			}
		}
	}
	if r, n, e := Get(nil); r != (api.Record{}) || n != 0 || e != api.ErrShort {
		t.Errorf("P401: Get of nil: %v, %d, %d", r, n, e)
	}
}

// fields answers the bytes of a right record ahead of each number, and the greatest that may stand there.
func fields() (fronts []string, most []uint64) {
	return []string{"", "\x00", "\x00\x00\x00", "\x00\x00\x00\x01a", "\x00\x00\x01\x01a"}, []uint64{topOffset, 2 * topTime, 200, 2000, 2000}
}

// TestP401GetWrongNumbers fails if an error of a number is not told as varint tells it, or not at once.
func TestP401GetWrongNumbers(t *testing.T) {
	fronts, _ := fields()
	for _, front := range fronts {
		for number, want := range map[string]api.Errno{
			"":                                 api.ErrShort,
			"\x80":                             api.ErrShort,
			"\xff\xff":                         api.ErrShort,
			strings.Repeat("\xff", 9):          api.ErrShort,
			"\x80\x00":                         api.ErrSyntax,
			"\x81\x80\x00":                     api.ErrSyntax,
			strings.Repeat("\x80", 9) + "\x00": api.ErrSyntax,
			strings.Repeat("\xff", 9) + "\x01": api.ErrSyntax,
			strings.Repeat("\xff", 9) + "\x02": api.ErrLong,
			strings.Repeat("\x80", 10):         api.ErrLong,
			strings.Repeat("\x80", 11) + "a":   api.ErrLong,
		} {
			behind := []string{"", "\x00", "\x00\x00\x01a\x00", text(3000)}
			if want == api.ErrShort {
				behind = behind[:1]
			}
			for _, s := range behind {
				if r, n, e := Get([]byte(front + number + s)); r != (api.Record{}) || n != 0 || e != want {
					t.Errorf("P401: Get %q: %v, %d, %d, want error %d", front+number+s, r, n, e, want)
				}
			}
		}
	}
}

// TestP401GetAboveLimits fails if a number above its limit is not told at once: with no bytes behind it, ErrShort would be next.
func TestP401GetAboveLimits(t *testing.T) {
	fronts, most := fields()
	for i, front := range fronts {
		for _, x := range []uint64{most[i] + 1, most[i] + 2, 2*most[i] + 2, 1 << 31, 1 << 32, 1<<32 + 1, 1 << 62, math.MaxInt64, 1 << 63, 1<<63 + 1, math.MaxUint64} {
			if x <= most[i] {
				continue
			}
			b := binary.AppendUvarint([]byte(front), x)
			for _, behind := range []string{"", "\x80", "\x02", text(3000)} {
				if r, n, e := Get(append(b[:len(b):len(b)], behind...)); r != (api.Record{}) || n != 0 || e != api.ErrSyntax {
					t.Errorf("P401: Get of %d behind %q: %v, %d, %d", x, front, r, n, e)
				}
			}
		}
		b := binary.AppendUvarint([]byte(front), most[i])
		if r, n, e := Get(b); r != (api.Record{}) || n != 0 || e != api.ErrShort {
			t.Errorf("P401: Get of %d behind %q: %v, %d, %d", most[i], front, r, n, e)
		}
	}
}

func TestP401GetOtherBytesThan0And1(t *testing.T) {
	for c := range 256 {
		for _, behind := range []string{"", "\x00", "\x01a\x00", "\x00\x01a\x00"} {
			b := append([]byte{0, 0, byte(c)}, behind...)
			r, n, e := Get(b)
			switch {
			case c > 1:
				if r != (api.Record{}) || n != 0 || e != api.ErrSyntax {
					t.Errorf("P401: Get %v: %v, %d, %d", b, r, n, e)
				}
			case behind == "\x01a\x00":
				if r != (api.Record{Key: "a", Dead: c == 1}) || n != 6 || e != api.OK {
					t.Errorf("P401: Get %v: %v, %d, %d", b, r, n, e)
				}
			}
		}
	}
}

// TestP401GetNotRightAtTheEnd fails if a Key of no bytes, or a Value of a Dead one, is told ahead of what is behind it.
func TestP401GetNotRightAtTheEnd(t *testing.T) {
	for b, want := range map[string]api.Errno{
		"\x00\x00\x00\x00":                                      api.ErrShort,
		"\x00\x00\x00\x00\x80":                                  api.ErrShort,
		"\x00\x00\x00\x00\x02v":                                 api.ErrShort,
		"\x00\x00\x01\x00\x02v":                                 api.ErrShort,
		"\x00\x00\x01\x01a\x01":                                 api.ErrShort,
		"\x00\x00\x01\x01a\xd0\x0f" + text(1999):                api.ErrShort,
		"\x00\x00\x00\x00\xd1\x0f":                              api.ErrSyntax,
		"\x00\x00\x00\x00\x00":                                  api.ErrSyntax,
		"\x00\x00\x01\x00\x00":                                  api.ErrSyntax,
		"\x00\x00\x00\x00\x01v":                                 api.ErrSyntax,
		"\x00\x00\x00\x00\x01vmore":                             api.ErrSyntax,
		"\x00\x00\x01\x01a\x01v":                                api.ErrSyntax,
		"\x00\x00\x01\x01a\x01vmore":                            api.ErrSyntax,
		"\x00\x00\x01\x01a\xd0\x0f" + text(2000):                api.ErrSyntax,
		"\x00\x00\x00\x00" + strings.Repeat("\xff", 9) + "\x02": api.ErrLong,
	} {
		if r, n, e := Get([]byte(b)); r != (api.Record{}) || n != 0 || e != want {
			t.Errorf("P401: Get %q: %v, %d, %d, want error %d", b, r, n, e, want)
		}
	}
}

func TestP401GetMissingTexts(t *testing.T) {
	for _, b := range []string{
		"\x00\x00\x00\x05a", "\x00\x00\x00\x01", "\x00\x00\x00\xc8\x01" + text(199),
		"\x00\x00\x00\x01a", "\x00\x00\x00\x01a\x01", "\x00\x00\x00\x01a\xd0\x0f", "\x00\x00\x00\x01a\xd0\x0f" + text(1999),
	} {
		if r, n, e := Get([]byte(b)); r != (api.Record{}) || n != 0 || e != api.ErrShort {
			t.Errorf("P401: Get %q: %v, %d, %d", b, r, n, e)
		}
	}
}

// TestP401GetTurnedBytes turns each byte of some right records to each other one.
func TestP401GetTurnedBytes(t *testing.T) {
	for _, r := range []api.Record{
		{Key: "a"},
		{Offset: 300, Time: -5, Key: "key", Value: "value"},
		{Offset: topOffset, Time: topTime, Key: text(130), Dead: true},
		{Offset: topOffset - 1, Time: -topTime, Key: "a", Value: text(130)},
	} {
		b := slowPut(r)
		for i, was := range b {
			for c := range 256 {
				b[i] = byte(c)
				checkGet(t, b)
				checkGet(t, b[:i+1])
			}
			b[i] = was
		}
	}
}

// TestP401GetOfMany reads rows of bytes that are often near to a record; what is read is Right, and is written as it was.
func TestP401GetOfMany(t *testing.T) {
	kinds := []string{"\x00", "\x00", "\x00", "\x01", "\x01", "\x02", "\x03", "\x05", "\x28", "\x7f", "\x80", "\x81", "\xc8\x01", "\xd1\x0f", "\xff", "key", strings.Repeat("\xff", 9)}
	seen := map[api.Errno]int{}
	x := uint32(11)
	for n := range 200000 {
		b := []byte{}
		for range n % 14 {
			x = x*1664525 + 1013904223
			b = append(b, kinds[int(x>>16)%len(kinds)]...)
		}
		checkGet(t, b)
		r, size, e := Get(b)
		seen[e]++
		if e == api.OK && (!Right(r) || Size(r) != size || !bytes.Equal(Put(nil, r), b[:size])) {
			t.Fatalf("P401: Get %v: %v, %d, which is written as %v", b, r, size, Put(nil, r))
		}
	}
	for _, e := range []api.Errno{api.OK, api.ErrShort, api.ErrSyntax, api.ErrLong} {
		if seen[e] == 0 {
			t.Errorf("no bytes with error %d were tried", e)
		}
	}
}

// TestP402PutLeavesWhatIsHandedIn fails if Put writes into its argument's spare room.
func TestP402PutLeavesWhatIsHandedIn(t *testing.T) {
	full := bytes.Repeat([]byte{77}, 2500)
	for _, r := range append(wrong(), api.Record{Key: "a"}, api.Record{Offset: topOffset, Time: -1, Key: text(200), Value: text(2000)}) {
		room := bytes.Clone(full)
		for size := range 25 {
			got := Put(room[:size], r)
			if !bytes.Equal(room, full) {
				t.Fatalf("P402: Put %v behind %d bytes turned what was handed in", r, size)
			}
			if !bytes.Equal(got[:size], room[:size]) {
				t.Fatalf("P402: Put %v behind %d bytes: %v", r, size, got)
			}
		}
	}
}

// TestP402PutAnswersNewMemory fails if an answer, its spare room too, is shared with the argument or with another answer.
func TestP402PutAnswersNewMemory(t *testing.T) {
	for _, r := range append(wrong(), api.Record{Key: "a"}, api.Record{Key: "k", Value: text(2000)}) {
		b := append(make([]byte, 0, 64), "front"...)
		first, second := Put(b, r), Put(b, r)
		want := bytes.Clone(first)
		for i := range b[:cap(b)] {
			b[:cap(b)][i] = 9
		}
		for i := range second[:cap(second)] {
			second[:cap(second)][i] = 8
		}
		if !bytes.Equal(first, want) || !bytes.Equal(b[:cap(b)], bytes.Repeat([]byte{9}, cap(b))) {
			t.Errorf("P402: Put %v shares memory: %v, %v", r, first, b[:cap(b)])
		}
	}
}

// TestP402GetLeavesWhatIsHandedIn fails if Get turns its bytes, or if the texts that it answers stand in them.
func TestP402GetLeavesWhatIsHandedIn(t *testing.T) {
	for _, s := range []string{
		"", "\x80", "\x80\x00", "\x00\x00\x02", "\x00\x00\x00\x00\x00", "\x00\x00\x00\x05a",
		"\x00\x00\x00\x01a\x00", "\xac\x02\x09\x00\x03key\x05value", "\x00\x00\x00\xc8\x01" + text(200) + "\xd0\x0f" + text(2000),
	} {
		room := append([]byte(s), "spare"...)
		r, _, _ := Get(room[:len(s)])
		if string(room) != s+"spare" {
			t.Errorf("P402: Get turned %q into %q", s+"spare", room)
		}
		want, _, _ := slowGet([]byte(s))
		for i := range room {
			room[i] = 9
		}
		if r != want {
			t.Errorf("P402: what Get answered of %q became %v", s, r)
		}
	}
}

// TestP402ArgumentsAlone asks the same again with other calls between, and with other spare room.
func TestP402ArgumentsAlone(t *testing.T) {
	some := append(wrong(), api.Record{Key: "a"}, api.Record{Key: "a", Dead: true}, api.Record{Offset: 300, Time: -5, Key: "key", Value: text(300)})
	for _, r := range some {
		ok, size, written := Right(r), Size(r), string(Put([]byte("x"), r))
		for _, between := range some {
			Right(between)
			Size(between)
			Get(Put([]byte("other"), between)[5:])
			Get([]byte{0, 0, 2})
			roomy := append(make([]byte, 0, 3000), "x"...)
			if Right(r) != ok || Size(r) != size || string(Put(roomy, r)) != written {
				t.Fatalf("P402: of %v, asked again: %v, %d, %q", r, Right(r), Size(r), Put(roomy, r))
			}
			if !ok {
				continue
			}
			b := []byte(written)[1:]
			// Spare room behind the length is no part of the argument: a record whose last byte is there stays short.
			if _, _, e := Get(b[:size-1]); e != api.ErrShort {
				t.Fatalf("P402: Get of %v saw spare room: %d", r, e)
			}
			if got, n, e := Get(b); got != r || n != size || e != api.OK {
				t.Fatalf("P402: Get of %v, asked again: %v, %d, %d", r, got, n, e)
			}
		}
		if !bytes.Equal(Put(nil, r), Put([]byte{}, r)) {
			t.Errorf("P402: nil and an empty list are not the same for %v", r)
		}
	}
	if r, n, e := Get([]byte{}); r != (api.Record{}) || n != 0 || e != api.ErrShort {
		t.Errorf("P402: Get of an empty list: %v, %d, %d", r, n, e)
	}
}

// TestP402KeepsNothing asks many at one time: what one call kept would be met by another.
func TestP402KeepsNothing(t *testing.T) {
	all := right()
	var group sync.WaitGroup
	for k := range 8 {
		group.Go(func() {
			for i := range 300 {
				r := all[(i*(2*k+1)+k)%len(all)]
				want := slowPut(r)
				if got, n, e := Get(want); got != r || n != len(want) || e != api.OK {
					t.Errorf("P402: Get of %v, asked beside others: %v, %d, %d", r, got, n, e)
				}
				if !Right(r) || Size(r) != len(want) || !bytes.Equal(Put(nil, r), want) {
					t.Errorf("P402: of %v, asked beside others", r)
				}
			}
		})
	}
	group.Wait()
}
