package varint

import (
	"bytes"
	"math"
	"math/big"
	"slices"
	"strings"
	"testing"

	"cooperage/api"
)

// numbers are the edges: each power of two with its neighbours, and so each count of bytes from 1 to 10.
func numbers() []uint64 {
	out := []uint64{0, 300, math.MaxUint64, math.MaxUint64 - 1}
	for k := range 64 {
		p := uint64(1) << k
		out = append(out, p-1, p, p+1, p|0x55, ^p)
	}
	return out
}

// slowPut says P101's sentence by division of big numbers.
func slowPut(x uint64) []byte {
	rest, base, digit := new(big.Int).SetUint64(x), big.NewInt(128), new(big.Int)
	out := []byte{}
	for {
		rest.DivMod(rest, base, digit)
		if rest.Sign() == 0 {
			return append(out, byte(digit.Int64()))
		}
		out = append(out, byte(digit.Int64())+128)
	}
}

// slowGet looks at the whole of a number where Get goes byte by byte.
func slowGet(b []byte) (uint64, int, api.Errno) {
	size := 1 + slices.IndexFunc(b, func(c byte) bool { return c < 128 })
	if size == 0 && len(b) < 10 {
		return 0, 0, api.ErrShort
	}
	if size == 0 || size > 10 {
		return 0, 0, api.ErrLong
	}
	sum := new(big.Int)
	for i := size - 1; i >= 0; i-- {
		sum.Add(sum.Mul(sum, big.NewInt(128)), big.NewInt(int64(b[i]&127)))
	}
	if !sum.IsUint64() {
		return 0, 0, api.ErrLong
	}
	if size > 1 && b[size-1] == 0 {
		return 0, 0, api.ErrSyntax
	}
	return sum.Uint64(), size, api.OK
}

func checkGet(t *testing.T, b []byte) {
	t.Helper()
	x, n, e := Get(b)
	wantX, wantN, wantE := slowGet(b)
	if x != wantX || n != wantN || e != wantE {
		t.Fatalf("P101: Get %v: %d, %d, %d, want %d, %d, %d", b, x, n, e, wantX, wantN, wantE)
	}
}

func TestP101PutWritten(t *testing.T) {
	for _, c := range []struct {
		x    uint64
		want []byte
	}{
		{0, []byte{0}},
		{1, []byte{1}},
		{127, []byte{127}},
		{128, []byte{128, 1}},
		{300, []byte{172, 2}},
		{16383, []byte{255, 127}},
		{16384, []byte{128, 128, 1}},
		{1<<63 - 1, []byte{255, 255, 255, 255, 255, 255, 255, 255, 127}},
		{1 << 63, []byte{128, 128, 128, 128, 128, 128, 128, 128, 128, 1}},
		{math.MaxUint64, []byte{255, 255, 255, 255, 255, 255, 255, 255, 255, 1}},
	} {
		if got := Put(nil, c.x); !bytes.Equal(got, c.want) {
			t.Errorf("P101: Put %d: %v, want %v", c.x, got, c.want)
		}
	}
}

func TestP101PutAllSizes(t *testing.T) {
	sizes := [11]int{}
	for _, x := range numbers() {
		want := slowPut(x)
		sizes[len(want)]++
		for _, front := range []string{"", "a", "\x80\xff\x00", strings.Repeat("f", 1000)} {
			if got := Put([]byte(front), x); string(got) != front+string(want) {
				t.Errorf("P101: Put %d behind %q: %v, want %v", x, front, got, want)
			}
		}
	}
	for size := 1; size <= 10; size++ {
		if sizes[size] == 0 {
			t.Errorf("no number of %d bytes was tried", size)
		}
	}
}

func TestP101GetTurnsPutBack(t *testing.T) {
	for _, x := range numbers() {
		b := slowPut(x)
		for _, behind := range []string{"", "\x00", "\x05", "\x80", "\xff\xff\xff\xff\xff\xff\xff\xff\xff\xff\xff\xff"} {
			if got, n, e := Get(append(bytes.Clone(b), behind...)); got != x || n != len(b) || e != api.OK {
				t.Errorf("P101: Get of %d with %q behind: %d, %d, %d", x, behind, got, n, e)
			}
		}
		for k := range b {
			if got, n, e := Get(b[:k:k]); got != 0 || n != 0 || e != api.ErrShort {
				t.Errorf("P101: Get of %d of the bytes of %d: %d, %d, %d", k, x, got, n, e)
			}
		}
	}
}

func TestP101GetWrong(t *testing.T) {
	low, high := strings.Repeat("\x80", 9), strings.Repeat("\xff", 9)
	for _, c := range []struct {
		b    string
		want api.Errno
	}{
		{"", api.ErrShort},
		{"\x80", api.ErrShort},
		{"\xff\xff", api.ErrShort},
		{low, api.ErrShort},
		{high, api.ErrShort},

		{"\x80\x00", api.ErrSyntax},
		{"\x81\x00", api.ErrSyntax},
		{"\xff\x80\x00", api.ErrSyntax},
		{"\x80\x00\x80", api.ErrSyntax},
		{low[:8] + "\x00", api.ErrSyntax},
		{low + "\x00", api.ErrSyntax},
		{high + "\x00", api.ErrSyntax},

		{low + "\x02", api.ErrLong},
		{high + "\x02", api.ErrLong},
		{high + "\x7f", api.ErrLong},

		// The tenth byte says already that an eleventh one is wanted: that is met ahead of the end and of the 0.
		{low + "\x80", api.ErrLong},
		{low + "\x81", api.ErrLong},
		{high + "\xff", api.ErrLong},
		{low + "\x80\x00", api.ErrLong},
		{low + "\x80\x01", api.ErrLong},
		{low + "\x81\x00", api.ErrLong},
		{strings.Repeat("\x80", 10000), api.ErrLong},
		{strings.Repeat("\xff", 10000) + "\x00", api.ErrLong},
	} {
		if x, n, e := Get([]byte(c.b)); x != 0 || n != 0 || e != c.want {
			t.Errorf("P101: Get %q: %d, %d, %d, want error %d", c.b, x, n, e, c.want)
		}
	}
	if x, n, e := Get(nil); x != 0 || n != 0 || e != api.ErrShort {
		t.Errorf("P101: Get of nil: %d, %d, %d", x, n, e)
	}
}

func TestP101GetAllOfTwoBytes(t *testing.T) {
	for c := range 256 {
		checkGet(t, []byte{byte(c)})
		for d := range 256 {
			checkGet(t, []byte{byte(c), byte(d)})
		}
	}
}

func TestP101GetAroundTenBytes(t *testing.T) {
	ends := []byte{0, 1, 2, 3, 127, 128, 129, 130, 255}
	for front := 0; front <= 11; front++ {
		for _, c := range []byte{128, 129, 255} {
			b := bytes.Repeat([]byte{c}, front)
			checkGet(t, b)
			for _, d1 := range ends {
				for _, d2 := range ends {
					for _, d3 := range ends {
						checkGet(t, append(b[:front:front], d1, d2, d3))
					}
					checkGet(t, append(b[:front:front], d1, d2))
				}
				checkGet(t, append(b[:front:front], d1))
			}
		}
	}
}

func TestP101FoldWritten(t *testing.T) {
	for _, c := range []struct {
		n    int
		want uint64
	}{
		{0, 0},
		{-1, 1},
		{1, 2},
		{-2, 3},
		{2, 4},
		{300, 600},
		{-300, 599},
		{1 << 40, 1 << 41},
		{-1 << 40, 1<<41 - 1},
		{math.MaxInt, math.MaxUint64 - 1},
		{math.MinInt + 1, math.MaxUint64 - 2},
		{math.MinInt, math.MaxUint64},
	} {
		if got := Fold(c.n); got != c.want {
			t.Errorf("P101: Fold %d: %d, want %d", c.n, got, c.want)
		}
		if got := Unfold(c.want); got != c.n {
			t.Errorf("P101: Unfold %d: %d, want %d", c.want, got, c.n)
		}
	}
}

func TestP101FoldAndUnfoldAtEdges(t *testing.T) {
	for _, x := range numbers() {
		n := int(x)
		want := new(big.Int).Mul(big.NewInt(2), big.NewInt(int64(n)))
		if n < 0 {
			want.Sub(want.Neg(want), big.NewInt(1))
		}
		if got := Fold(n); !want.IsUint64() || got != want.Uint64() {
			t.Errorf("P101: Fold %d: %d, want %s", n, got, want)
		}
		if got := Unfold(Fold(n)); got != n {
			t.Errorf("P101: Unfold of Fold %d: %d", n, got)
		}
		if got := Fold(Unfold(x)); got != x {
			t.Errorf("P101: Fold of Unfold %d: %d", x, got)
		}
	}
}

// TestP102PutLeavesWhatIsHandedIn fails if Put writes into its argument's spare room.
func TestP102PutLeavesWhatIsHandedIn(t *testing.T) {
	for _, x := range numbers() {
		room := bytes.Repeat([]byte{77}, 40)
		for size := range 25 {
			got := Put(room[:size], x)
			if !bytes.Equal(room, bytes.Repeat([]byte{77}, 40)) {
				t.Fatalf("P102: Put %d behind %d bytes turned what was handed in: %v", x, size, room)
			}
			if !bytes.Equal(got[:size], room[:size]) {
				t.Fatalf("P102: Put %d behind %d bytes: %v", x, size, got)
			}
		}
	}
}

// TestP102PutAnswersNewMemory fails if an answer, its spare room too, is shared with the argument or with another answer.
func TestP102PutAnswersNewMemory(t *testing.T) {
	for _, x := range []uint64{0, 300, math.MaxUint64} {
		b := append(make([]byte, 0, 64), "front"...)
		first, second := Put(b, x), Put(b, x)
		want := bytes.Clone(first)
		for i := range b[:cap(b)] {
			b[:cap(b)][i] = 9
		}
		for i := range second[:cap(second)] {
			second[:cap(second)][i] = 8
		}
		if !bytes.Equal(first, want) || !bytes.Equal(b[:cap(b)], bytes.Repeat([]byte{9}, cap(b))) {
			t.Errorf("P102: Put %d shares memory: %v, %v", x, first, b[:cap(b)])
		}
	}
}

func TestP102GetLeavesWhatIsHandedIn(t *testing.T) {
	for _, s := range []string{"\x00", "\xac\x02", "\x80\x00", "\x80", strings.Repeat("\xff", 9) + "\x01", strings.Repeat("\xff", 12)} {
		room := append([]byte(s), "spare"...)
		Get(room[:len(s)])
		if string(room) != s+"spare" {
			t.Errorf("P102: Get turned %q into %q", s+"spare", room)
		}
	}
}

// TestP102ArgumentsAlone asks the same again with other calls between, and with other spare room.
func TestP102ArgumentsAlone(t *testing.T) {
	for _, x := range numbers() {
		b := slowPut(x)
		for _, between := range []uint64{0, 127, math.MaxUint64} {
			Put([]byte("other"), between)
			Get(bytes.Repeat([]byte{byte(between)}, 3))
			Unfold(Fold(int(between)))
			roomy := append(make([]byte, 0, 100), "a"...)
			if got := Put(roomy, x); string(got) != "a"+string(b) {
				t.Errorf("P102: Put %d, asked again: %v", x, got)
			}
			// Spare room behind the length is no part of the argument: a number that ends on the way stays short.
			if _, _, e := Get(b[:len(b)-1]); e != api.ErrShort {
				t.Errorf("P102: Get of %d saw spare room: %d", x, e)
			}
			if got, n, e := Get(b); got != x || n != len(b) || e != api.OK {
				t.Errorf("P102: Get of %d, asked again: %d, %d, %d", x, got, n, e)
			}
		}
	}
	if !bytes.Equal(Put(nil, 300), Put([]byte{}, 300)) {
		t.Error("P102: nil and an empty list are not the same")
	}
}
