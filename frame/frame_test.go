package frame

import (
	"bytes"
	"encoding/binary"
	"hash/crc32"
	"math"
	"slices"
	"strings"
	"sync"
	"testing"

	"cooperage/api"
)

const topPiece = 16777216 // 2^24

// slowPut says P501's sentence of Put by the library's numbers and sums.
func slowPut(piece []byte) []byte {
	b := binary.AppendUvarint(nil, uint64(len(piece)))
	b = binary.BigEndian.AppendUint32(b, crc32.ChecksumIEEE(piece))
	return append(b, piece...)
}

// slowNumber is P101's Get by the library's.
func slowNumber(b []byte) (uint64, int, api.Errno) {
	x, n := binary.Uvarint(b)
	switch {
	case n < 0, n == 0 && len(b) >= 10:
		return 0, 0, api.ErrLong
	case n == 0:
		return 0, 0, api.ErrShort
	case n > 1 && b[n-1] == 0:
		return 0, 0, api.ErrSyntax
	}
	return x, n, api.OK
}

// slowGet says P501's sentence of Get, error by error.
func slowGet(b []byte) ([]byte, int, api.Errno) {
	x, n, e := slowNumber(b)
	if e != api.OK {
		return nil, 0, e
	}
	if x > topPiece {
		return nil, 0, api.ErrLong
	}
	rest := b[n:]
	if uint64(len(rest)) < 4+x {
		return nil, 0, api.ErrShort
	}
	piece := rest[4 : 4+x]
	if crc32.ChecksumIEEE(piece) != binary.BigEndian.Uint32(rest) {
		return nil, 0, api.ErrSum
	}
	return piece, n + 4 + len(piece), api.OK
}

// slowAll says P501's sentence of All.
func slowAll(b []byte) ([][]byte, int) {
	pieces, size := [][]byte{}, 0
	for {
		piece, n, e := slowGet(b[size:])
		if e != api.OK {
			return pieces, size
		}
		pieces, size = append(pieces, piece), size+n
	}
}

func checkGet(t *testing.T, b []byte) {
	t.Helper()
	piece, n, e := Get(b)
	wantPiece, wantN, wantE := slowGet(b)
	if !bytes.Equal(piece, wantPiece) || n != wantN || e != wantE {
		t.Fatalf("P501: Get %v: %v, %d, %d, want %v, %d, %d", b, piece, n, e, wantPiece, wantN, wantE)
	}
}

func checkAll(t *testing.T, b []byte) {
	t.Helper()
	pieces, n := All(b)
	wantPieces, wantN := slowAll(b)
	if !samePieces(pieces, wantPieces) || n != wantN {
		t.Fatalf("P501: All %v: %v, %d, want %v, %d", b, pieces, n, wantPieces, wantN)
	}
}

func samePieces(a, b [][]byte) bool { return slices.EqualFunc(a, b, bytes.Equal) }

// wrongGet fails if Get of b is anything but that error alone.
func wrongGet(t *testing.T, b []byte, want api.Errno) {
	t.Helper()
	if piece, n, e := Get(b); len(piece) != 0 || n != 0 || e != want {
		t.Fatalf("P501: Get of %d bytes, %.20q: %d bytes, %d, %d, want error %d", len(b), b, len(piece), n, e, want)
	}
}

// mixed answers n bytes of all kinds, always the same ones.
func mixed(n int) []byte {
	out := make([]byte, n)
	x := uint32(n)*2654435761 + 12345
	for i := range out {
		x = x*1664525 + 1013904223
		out[i] = byte(x >> 24)
	}
	return out
}

// some are pieces of the edges of a length of one byte, two and three, and of all kinds of bytes.
func some() [][]byte {
	out := [][]byte{nil, {}, {0}, {255}, []byte("a"), []byte("123456789"), []byte("é\x00\xff"), make([]byte, 5)}
	for _, n := range []int{2, 3, 4, 5, 9, 126, 127, 128, 129, 300, 16383, 16384} {
		out = append(out, mixed(n), make([]byte, n), bytes.Repeat([]byte{255}, n))
	}
	// Frames may be pieces, too.
	return append(out, slowPut(nil), slowPut(mixed(40)), append(slowPut([]byte("a")), slowPut([]byte("b"))...))
}

func TestP501PutWritten(t *testing.T) {
	for _, c := range []struct{ b, piece, want string }{
		{"", "", "\x00\x00\x00\x00\x00"},
		{"x", "", "x\x00\x00\x00\x00\x00"},
		{"", "a", "\x01\xe8\xb7\xbe\x43a"},
		{"", "\x00", "\x01\xd2\x02\xef\x8d\x00"},
		{"", "\xff", "\x01\xff\x00\x00\x00\xff"},
		{"", "123456789", "\x09\xcb\xf4\x39\x26123456789"},
		{"\x80\xff\x00", "abc", "\x80\xff\x00\x03\x35\x24\x41\xc2abc"},
		{"\x00\x00\x00\x00\x00", "a", "\x00\x00\x00\x00\x00\x01\xe8\xb7\xbe\x43a"},
	} {
		if got := Put([]byte(c.b), []byte(c.piece)); string(got) != c.want {
			t.Errorf("P501: Put %q behind %q: %v, want %v", c.piece, c.b, got, []byte(c.want))
		}
		b := []byte(c.want)[len(c.b):]
		if piece, n, e := Get(b); string(piece) != c.piece || n != len(b) || e != api.OK {
			t.Errorf("P501: Get %v: %v, %d, %d, want %q", b, piece, n, e, c.piece)
		}
	}
	if got := Put(nil, nil); !bytes.Equal(got, make([]byte, 5)) {
		t.Errorf("P501: Put of nil behind nil: %v", got)
	}
}

func TestP501PutBehindBytes(t *testing.T) {
	for _, piece := range some() {
		want := string(slowPut(piece))
		for _, front := range []string{"", "x", "\x80\xff\x00", "\x05\x00\x00\x00", strings.Repeat("f", 1000)} {
			if got := Put([]byte(front), piece); string(got) != front+want {
				t.Fatalf("P501: Put of %d bytes behind %q: %v, want %v", len(piece), front, got, []byte(want))
			}
		}
	}
}

func TestP501GetTurnsPutBack(t *testing.T) {
	for _, piece := range some() {
		b := Put(nil, piece)
		for _, behind := range []string{"", "\x00", "\x80", "\xff\xff\xff\xff\xff", string(b), strings.Repeat("\xff", 300)} {
			got, n, e := Get(append(bytes.Clone(b), behind...))
			if !bytes.Equal(got, piece) || n != len(b) || e != api.OK {
				t.Fatalf("P501: Get of a frame of %d bytes with %q behind: %v, %d, %d", len(piece), behind, got, n, e)
			}
		}
	}
}

// TestP501LengthOfTwoBytes holds where the number of a length grows by a byte.
func TestP501LengthOfTwoBytes(t *testing.T) {
	for _, c := range []struct {
		n    int
		head string
	}{{127, "\x7f"}, {128, "\x80\x01"}, {16383, "\xff\x7f"}, {16384, "\x80\x80\x01"}} {
		piece := mixed(c.n)
		b := Put(nil, piece)
		if len(b) != len(c.head)+4+c.n || string(b[:len(c.head)]) != c.head {
			t.Errorf("P501: Put of %d bytes: %d bytes, %v", c.n, len(b), b[:8])
		}
		if got, n, e := Get(b); !bytes.Equal(got, piece) || n != len(b) || e != api.OK {
			t.Errorf("P501: Get of %d bytes: %d bytes, %d, %d", c.n, len(got), n, e)
		}
	}
}

// TestP501GreatestPiece holds at 2^24 bytes and at one more: Put writes both, Get reads the first one alone.
func TestP501GreatestPiece(t *testing.T) {
	piece := mixed(topPiece + 1)
	b := Put([]byte("x"), piece[:topPiece])
	if want := slowPut(piece[:topPiece]); b[0] != 'x' || !bytes.Equal(b[1:], want) {
		t.Fatalf("P501: Put of 2^24 bytes: %d bytes, %v", len(b), b[:9])
	}
	if got, n, e := Get(b[1:]); !bytes.Equal(got, piece[:topPiece]) || n != len(b)-1 || e != api.OK {
		t.Fatalf("P501: Get of 2^24 bytes: %d bytes, %d, %d", len(got), n, e)
	}
	wrongGet(t, b[1:len(b)-1], api.ErrShort)
	if pieces, n := All(b[1:]); len(pieces) != 1 || !bytes.Equal(pieces[0], piece[:topPiece]) || n != len(b)-1 {
		t.Fatalf("P501: All of 2^24 bytes: %d pieces, %d", len(pieces), n)
	}

	long := Put(nil, piece)
	if !bytes.Equal(long, slowPut(piece)) {
		t.Fatalf("P501: Put of 2^24 + 1 bytes: %d bytes, %v", len(long), long[:8])
	}
	wrongGet(t, long, api.ErrLong)
	first := Put(nil, []byte("first"))
	if pieces, n := All(append(bytes.Clone(first), long...)); len(pieces) != 1 || string(pieces[0]) != "first" || n != len(first) {
		t.Fatalf("P501: All with 2^24 + 1 bytes behind: %d pieces, %d", len(pieces), n)
	}
}

// TestP501GetAboveLimit fails if a length above 2^24 is not told at once: with no bytes behind it, ErrShort would be next.
func TestP501GetAboveLimit(t *testing.T) {
	for _, x := range []uint64{topPiece + 1, topPiece + 2, 2 * topPiece, 1<<31 - 1, 1 << 31, 1 << 32, 1<<32 + 3, 1 << 62, math.MaxInt64 - 4, math.MaxInt64, 1 << 63, 1<<63 + 3, math.MaxUint64 - 4, math.MaxUint64} {
		b := binary.AppendUvarint(nil, x)
		for _, behind := range []string{"", "\x00", "\x00\x00\x00\x00", "\x35\x24\x41\xc2abc", strings.Repeat("t", 3000)} {
			wrongGet(t, append(bytes.Clone(b), behind...), api.ErrLong)
		}
	}
	for _, x := range []uint64{topPiece - 1, topPiece} {
		b := binary.AppendUvarint(nil, x)
		for _, behind := range []string{"", "\x00", "\x00\x00\x00\x00", strings.Repeat("t", 3000)} {
			wrongGet(t, append(bytes.Clone(b), behind...), api.ErrShort)
		}
	}
}

// TestP501GetWrongNumbers fails if an error of the length is not told as varint tells it, whatever stands behind.
func TestP501GetWrongNumbers(t *testing.T) {
	low, high := strings.Repeat("\x80", 9), strings.Repeat("\xff", 9)
	for _, c := range []struct {
		number string
		want   api.Errno
	}{
		{"\x80\x00", api.ErrSyntax},
		{"\x83\x00", api.ErrSyntax},
		{"\x81\x80\x00", api.ErrSyntax},
		// Of a number above 2^24, too: that it is not the shortest is varint's error, and that one is first.
		{"\x81\x80\x80\x88\x00", api.ErrSyntax},
		{low + "\x00", api.ErrSyntax},
		{high + "\x00", api.ErrSyntax},
		{high + "\x01", api.ErrLong},
		{high + "\x02", api.ErrLong},
		{low + "\x80", api.ErrLong},
		{low + "\x80\x80\x00", api.ErrLong},
	} {
		for _, behind := range []string{"", "\x00\x00\x00\x00", "\x35\x24\x41\xc2abc", strings.Repeat("t", 300)} {
			wrongGet(t, []byte(c.number+behind), c.want)
		}
	}
	for _, number := range []string{"", "\x80", "\x83", "\xff\xff", "\x81\x80\x80\x88", low, high} {
		wrongGet(t, []byte(number), api.ErrShort)
	}
	wrongGet(t, nil, api.ErrShort)
}

func TestP501GetEveryFront(t *testing.T) {
	for _, piece := range some() {
		b := Put(nil, piece)
		for k := range b {
			// Short frames at all places, long ones where their parts begin and end.
			if k < 20 || k > len(b)-20 || len(b) < 500 {
				wrongGet(t, b[:k:k], api.ErrShort)
			}
		}
	}
}

// TestP501ShortAheadOfSum fails if a sum is looked at, though bytes are missing.
func TestP501ShortAheadOfSum(t *testing.T) {
	for _, b := range []string{"\x00", "\x00\xff", "\x00\xff\xff\xff", "\x03\x00\x00\x00\x00", "\x03\x00\x00\x00\x00ab", "\x01\x00\x00\x00\x00", "\x05\x35\x24\x41\xc2abc"} {
		wrongGet(t, []byte(b), api.ErrShort)
	}
}

func TestP501TurnedBitIsSeen(t *testing.T) {
	for _, piece := range some() {
		b := Put(nil, piece)
		if len(b) > 400 {
			continue
		}
		head := len(b) - len(piece) - 4
		for i := head; i < len(b); i++ {
			for k := range 8 {
				turned := bytes.Clone(b)
				turned[i] ^= 1 << k
				wrongGet(t, turned, api.ErrSum)
				wrongGet(t, append(turned, "behind"...), api.ErrSum)
				if pieces, n := All(turned); len(pieces) != 0 || n != 0 {
					t.Fatalf("P501: All of %v: %d pieces, %d", turned, len(pieces), n)
				}
			}
		}
	}
}

// TestP501SumTheGreatOnesFirst fails if a frame with its sum the other way round is read.
func TestP501SumTheGreatOnesFirst(t *testing.T) {
	for _, piece := range some() {
		b := slowPut(piece)
		sum := b[len(b)-len(piece)-4:][:4]
		was := bytes.Clone(sum)
		slices.Reverse(sum)
		if bytes.Equal(sum, was) {
			continue
		}
		wrongGet(t, b, api.ErrSum)
	}
}

// TestP501GetTurnedBytes turns each byte of some frames to each other one, the lengths too.
func TestP501GetTurnedBytes(t *testing.T) {
	for _, piece := range [][]byte{nil, []byte("a"), []byte("123456789"), mixed(130), slowPut([]byte("inner"))} {
		b := append(slowPut(piece), slowPut([]byte("next"))...)
		for i, was := range b {
			for c := range 256 {
				b[i] = byte(c)
				checkGet(t, b)
				checkAll(t, b)
				checkGet(t, b[:i+1])
			}
			b[i] = was
		}
	}
}

func TestP501AllWritten(t *testing.T) {
	for _, b := range [][]byte{nil, {}} {
		if pieces, n := All(b); len(pieces) != 0 || n != 0 {
			t.Errorf("P501: All of no bytes: %v, %d", pieces, n)
		}
	}
	b := "\x01\xe8\xb7\xbe\x43a" + "\x00\x00\x00\x00\x00" + "\x03\x35\x24\x41\xc2abc"
	want := [][]byte{[]byte("a"), {}, []byte("abc")}
	for _, behind := range []string{"", "\x80", "\x80\x00", "\x05\x00\x00\x00\x00", "\x00\x00\x00\x00\x01", "\x81\x80\x80\x08", strings.Repeat("\xff", 12)} {
		if pieces, n := All([]byte(b + behind)); !samePieces(pieces, want) || n != len(b) {
			t.Errorf("P501: All with %q behind: %q, %d", behind, pieces, n)
		}
	}
	if pieces, n := All(make([]byte, 5003)); len(pieces) != 1000 || n != 5000 {
		t.Errorf("P501: All of 5003 bytes of 0: %d pieces, %d", len(pieces), n)
	}
}

// TestP501AllEndsAtTheFirstError fails if a right frame behind a wrong one is told.
func TestP501AllEndsAtTheFirstError(t *testing.T) {
	pieces := [][]byte{[]byte("first"), nil, mixed(200), []byte("last")}
	for at := range len(pieces) + 1 {
		for _, wrong := range []string{"\x80\x00", "\x81\x80\x80\x08", "\x00\x00\x00\x00\x01", "\x01\xe8\xb7\xbe\x43b", strings.Repeat("\xff", 10), "\xff\x7f\x00"} {
			b, size := []byte{}, 0
			for i, piece := range pieces {
				if i == at {
					size = len(b)
					b = append(b, wrong...)
				}
				b = Put(b, piece)
			}
			if at == len(pieces) {
				size = len(b)
				b = append(b, wrong...)
			}
			if got, n := All(b); !samePieces(got, pieces[:at]) || n != size {
				t.Errorf("P501: All with %q ahead of the piece %d: %q, %d, want %d", wrong, at, got, n, size)
			}
		}
	}
}

// TestP501OfMany reads rows of bytes that are often near to a frame; what is read is written as it was.
func TestP501OfMany(t *testing.T) {
	kinds := []string{"\x00\x00\x00\x00\x00", "\x00\x00\x00\x00\x00", "\x01\xe8\xb7\xbe\x43a", "\x01\xe8\xb7\xbe\x43b", "\x03\x35\x24\x41\xc2abc", "\x00", "\x01", "\x04", "\x80", "\xff", "\x80\x80\x80\x08", "\x81\x80\x80\x08"}
	seen := map[api.Errno]int{}
	x := uint32(7)
	for n := range 100000 {
		b := []byte{}
		for range n % 9 {
			x = x*1664525 + 1013904223
			b = append(b, kinds[int(x>>16)%len(kinds)]...)
		}
		checkGet(t, b)
		checkAll(t, b)
		_, _, e := Get(b)
		seen[e]++
		pieces, size := All(b)
		again := []byte{}
		for _, piece := range pieces {
			again = Put(again, piece)
		}
		if !bytes.Equal(again, b[:size]) {
			t.Fatalf("P501: All %v: %v, %d, which is written as %v", b, pieces, size, again)
		}
	}
	for _, e := range []api.Errno{api.OK, api.ErrShort, api.ErrSyntax, api.ErrLong, api.ErrSum} {
		if seen[e] == 0 {
			t.Errorf("no bytes with error %d were tried", e)
		}
	}
}

// TestP502TornRow tears off the end of rows of frames at every place.
func TestP502TornRow(t *testing.T) {
	for _, row := range [][][]byte{
		{nil},
		{nil, nil, nil},
		{[]byte("a")},
		{[]byte("a"), nil, mixed(127), mixed(128), []byte("last")},
		{make([]byte, 12), slowPut(nil), slowPut(slowPut([]byte("inner"))), {128}, {255, 255}},
	} {
		b, ends := []byte{}, []int{0}
		for _, piece := range row {
			b = Put(b, piece)
			ends = append(ends, len(b))
		}
		whole := 0
		for k := range len(b) + 1 {
			if whole+1 < len(ends) && ends[whole+1] == k {
				whole++
			}
			got, n := All(b[:k:k])
			if !samePieces(got, row[:whole]) || n != ends[whole] {
				t.Fatalf("P502: All of %d of %d bytes: %q, %d, want %q, %d", k, len(b), got, n, row[:whole], ends[whole])
			}
			// Spare room behind the length is no part of the argument, though the row goes on there.
			if roomy, n := All(b[:k]); !samePieces(roomy, row[:whole]) || n != ends[whole] {
				t.Fatalf("P502: All of %d bytes saw spare room: %q, %d", k, roomy, n)
			}
		}
		if whole != len(row) {
			t.Fatalf("%d of %d frames were tried", whole, len(row))
		}
	}
}

// TestP502PutLeavesWhatIsHandedIn fails if Put writes into the spare room of what it is given.
func TestP502PutLeavesWhatIsHandedIn(t *testing.T) {
	full := bytes.Repeat([]byte{77}, 700)
	for _, size := range []int{0, 1, 5, 127, 128, 300} {
		room, pieceRoom := bytes.Clone(full), bytes.Clone(full)
		for front := range 25 {
			got := Put(room[:front], pieceRoom[:size])
			if !bytes.Equal(room, full) || !bytes.Equal(pieceRoom, full) {
				t.Fatalf("P502: Put of %d bytes behind %d turned what was handed in", size, front)
			}
			if !bytes.Equal(got, append(full[:front:front], slowPut(full[:size])...)) {
				t.Fatalf("P502: Put of %d bytes behind %d: %v", size, front, got)
			}
		}
	}
}

// TestP502PutOfSharedMemory hands in a piece that stands in b, or in its spare room.
func TestP502PutOfSharedMemory(t *testing.T) {
	room := mixed(60)
	was := bytes.Clone(room)
	for front := 0; front <= 40; front += 4 {
		for from := 0; from <= 40; from += 4 {
			want := append(bytes.Clone(was[:front]), slowPut(was[from:from+20])...)
			if got := Put(room[:front], room[from:from+20]); !bytes.Equal(got, want) || !bytes.Equal(room, was) {
				t.Fatalf("P502: Put of bytes from %d on behind the %d first of the same: %v, want %v", from, front, got, want)
			}
		}
	}
}

// overwrite turns all of b, its spare room too.
func overwrite(b []byte, c byte) {
	b = b[:cap(b)]
	for i := range b {
		b[i] = c
	}
}

// TestP502PutAnswersNewMemory fails if an answer, its spare room too, is shared with an argument or with another answer.
func TestP502PutAnswersNewMemory(t *testing.T) {
	for _, size := range []int{0, 1, 200} {
		b, piece := append(make([]byte, 0, 500), "front"...), mixed(size)
		first, second := Put(b, piece), Put(b, piece)
		want := bytes.Clone(first)
		overwrite(b, 9)
		overwrite(piece, 7)
		overwrite(second, 8)
		if !bytes.Equal(first, want) {
			t.Errorf("P502: Put of %d bytes shares memory: %v", size, first)
		}
		overwrite(first, 6)
		if !bytes.Equal(b[:cap(b)], bytes.Repeat([]byte{9}, cap(b))) || !bytes.Equal(piece, bytes.Repeat([]byte{7}, size)) {
			t.Errorf("P502: Put of %d bytes answers an argument's memory", size)
		}
	}
	piece := mixed(20)
	Put(nil, piece)[6] ^= 1
	if !bytes.Equal(piece, mixed(20)) {
		t.Error("P502: Put behind nil answers the piece's memory")
	}
}

// TestP502GetAnswersNewMemory fails if a piece stands in the bytes that it was read from, or if they are turned.
func TestP502GetAnswersNewMemory(t *testing.T) {
	for _, piece := range some() {
		room := append(slowPut(piece), "spare"...)
		was := bytes.Clone(room)
		first, _, _ := Get(room[:len(room)-5])
		second, _, _ := Get(room[:len(room)-5])
		overwrite(second, 8)
		if !bytes.Equal(room, was) {
			t.Fatalf("P502: Get of %d bytes: a write to its answer turned what was handed in", len(piece))
		}
		overwrite(room, 9)
		if !bytes.Equal(first, piece) {
			t.Fatalf("P502: what Get answered of %d bytes became %v", len(piece), first)
		}
	}
}

// TestP502AllAnswersNewMemory fails if pieces share memory with the bytes that they were read from, or with each other.
func TestP502AllAnswersNewMemory(t *testing.T) {
	row := some()
	b := []byte{}
	for _, piece := range row {
		b = append(b, slowPut(piece)...)
	}
	was := bytes.Clone(b)
	first, _ := All(b)
	second, _ := All(b)
	for i := range second {
		overwrite(second[i], 8)
		second[i] = nil
	}
	if !bytes.Equal(b, was) || !samePieces(first, row) {
		t.Fatal("P502: a write to what All answered turned something else")
	}
	overwrite(b, 9)
	for i := range first {
		if !samePieces(first[i:], row[i:]) {
			t.Fatalf("P502: the pieces from %d on share memory with those ahead or with what was handed in", i)
		}
		overwrite(first[i], 7)
	}
}

func TestP502LeavesWrongBytes(t *testing.T) {
	for _, s := range []string{"", "\x80", "\x80\x00", "\x81\x80\x80\x08", "\x03\x35\x24\x41\xc2ab", "\x03\x35\x24\x41\xc2abd", "\x00\x00\x00\x00\x00\x05"} {
		room := append([]byte(s), "spare"...)
		Get(room[:len(s)])
		All(room[:len(s)])
		if string(room) != s+"spare" {
			t.Errorf("P502: %q became %q", s+"spare", room)
		}
	}
}

// TestP502ArgumentsAlone asks the same again with other calls between, and with other spare room.
func TestP502ArgumentsAlone(t *testing.T) {
	others := [][]byte{nil, {0, 0, 0, 0, 1}, slowPut(mixed(50)), {128, 0}, bytes.Repeat([]byte{255}, 12)}
	for _, piece := range some() {
		want := append([]byte("x"), slowPut(piece)...)
		for _, between := range others {
			Put(between, between)
			Get(between)
			All(between)
			roomy := append(make([]byte, 0, len(want)+100), "x"...)
			if got := Put(roomy, piece); !bytes.Equal(got, want) {
				t.Fatalf("P502: Put of %d bytes, asked again: %v", len(piece), got)
			}
			if got, n, e := Get(want[1:]); !bytes.Equal(got, piece) || n != len(want)-1 || e != api.OK {
				t.Fatalf("P502: Get of %d bytes, asked again: %v, %d, %d", len(piece), got, n, e)
			}
			// Spare room behind the length is no part of the argument: a frame whose last byte is there stays short.
			wrongGet(t, want[1:len(want)-1], api.ErrShort)
		}
		if !bytes.Equal(Put(nil, piece), Put([]byte{}, piece)) {
			t.Errorf("P502: nil and an empty list are not the same ahead of %d bytes", len(piece))
		}
	}
	if !bytes.Equal(Put(nil, nil), Put(nil, []byte{})) {
		t.Error("P502: nil and an empty piece are not the same")
	}
}

// TestP502KeepsNothing asks many at one time: what one call kept would be met by another.
func TestP502KeepsNothing(t *testing.T) {
	row := some()
	var group sync.WaitGroup
	for k := range 8 {
		group.Go(func() {
			for i := range 100 {
				piece := row[(i*(2*k+1)+k)%len(row)]
				want := slowPut(piece)
				if got := Put(nil, piece); !bytes.Equal(got, want) {
					t.Errorf("P502: Put of %d bytes, asked beside others", len(piece))
				}
				if got, n, e := Get(want); !bytes.Equal(got, piece) || n != len(want) || e != api.OK {
					t.Errorf("P502: Get of %d bytes, asked beside others: %d, %d", len(piece), n, e)
				}
				if got, n := All(append(want, want...)); len(got) != 2 || n != 2*len(want) {
					t.Errorf("P502: All of %d bytes twice, asked beside others: %d, %d", len(piece), len(got), n)
				}
			}
		})
	}
	group.Wait()
}
