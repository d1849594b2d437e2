package crc

import (
	"bytes"
	"hash/crc32"
	"math"
	"strings"
	"testing"
)

// slowSum says P201's sentence bit by bit, without a table.
func slowSum(b []byte) uint32 {
	rest := uint32(math.MaxUint32)
	for _, c := range b {
		for k := range 8 {
			low := rest&1 != uint32(c>>k&1)
			rest >>= 1
			if low {
				rest ^= 0xEDB88320
			}
		}
	}
	return math.MaxUint32 - rest
}

// mixed answers n bytes of all kinds, always the same ones.
func mixed(n int) []byte {
	out := make([]byte, n)
	x := uint32(n)*2654435761 + 12345
	for i := range out {
		x = x*1664525 + 1013904223
		out[i] = byte(x >> 24)
	}
	return out
}

// pieces are byte rows of many lengths and kinds, those of the edges first.
func pieces() [][]byte {
	out := [][]byte{nil, {}, []byte("123456789"), []byte("a"), []byte("aä\x00\xff")}
	for _, n := range []int{1, 2, 3, 4, 5, 7, 8, 9, 31, 64, 255, 256, 257, 1000} {
		out = append(out, mixed(n), make([]byte, n), bytes.Repeat([]byte{255}, n), bytes.Repeat([]byte{0x5A}, n))
	}
	return out
}

func TestP201SumWritten(t *testing.T) {
	for _, c := range []struct {
		s    string
		want uint32
	}{
		{"", 0},
		{"123456789", 0xCBF43926},
		{"a", 0xE8B7BE43},
		{"abc", 0x352441C2},
		{"\x00", 0xD202EF8D},
		{"\x00\x00\x00\x00", 0x2144DF1C},
		{"\xff", 0xFF000000},
		{"\xff\xff\xff\xff", 0xFFFFFFFF},
		{"message digest", 0x20159D7F},
		{"abcdefghijklmnopqrstuvwxyz", 0x4C2750BD},
		{"The quick brown fox jumps over the lazy dog", 0x414FA339},
		{strings.Repeat("\x00", 32), 0x190A55AD},
		{strings.Repeat("\xff", 32), 0xFF6CAB0B},
	} {
		if got := Sum([]byte(c.s)); got != c.want {
			t.Errorf("P201: Sum %q: %08X, want %08X", c.s, got, c.want)
		}
	}
}

func TestP201SumOfNoBytes(t *testing.T) {
	if got := Sum(nil); got != 0 {
		t.Errorf("P201: Sum of nil: %08X", got)
	}
	if got := Sum([]byte{}); got != 0 {
		t.Errorf("P201: Sum of an empty list: %08X", got)
	}
	if got := Sum([]byte("abc")[:0]); got != 0 {
		t.Errorf("P201: Sum of no bytes ahead of spare room: %08X", got)
	}
}

func TestP201SumOfOneByteAndOfTwo(t *testing.T) {
	for c := range 256 {
		one := []byte{byte(c)}
		if got, want := Sum(one), slowSum(one); got != want {
			t.Errorf("P201: Sum %v: %08X, want %08X", one, got, want)
		}
		for d := range 256 {
			two := []byte{byte(c), byte(d)}
			if got, want := Sum(two), slowSum(two); got != want {
				t.Fatalf("P201: Sum %v: %08X, want %08X", two, got, want)
			}
		}
	}
}

func TestP201SumOfMany(t *testing.T) {
	for _, b := range append(pieces(), mixed(1<<20)) {
		want := slowSum(b)
		if other := crc32.ChecksumIEEE(b); want != other {
			t.Fatalf("the test's own sum of %d bytes is wrong: %08X, %08X", len(b), want, other)
		}
		if got := Sum(b); got != want {
			t.Errorf("P201: Sum of %d bytes: %08X, want %08X", len(b), got, want)
		}
	}
}

func TestP201MoreAtEveryCut(t *testing.T) {
	for _, b := range pieces() {
		want := slowSum(b)
		for k := range len(b) + 1 {
			if got := More(Sum(b[:k]), b[k:]); got != want {
				t.Fatalf("P201: More of %d bytes cut at %d: %08X, want %08X", len(b), k, got, want)
			}
		}
	}
}

func TestP201MoreByteByByte(t *testing.T) {
	for _, b := range pieces() {
		sum := uint32(0)
		for i := range b {
			sum = More(sum, b[i:i+1])
			if want := slowSum(b[:i+1]); sum != want {
				t.Fatalf("P201: More at byte %d of %d: %08X, want %08X", i, len(b), sum, want)
			}
		}
	}
}

func TestP201MoreInThreePieces(t *testing.T) {
	b := mixed(40)
	want := slowSum(b)
	for i := range len(b) + 1 {
		for j := i; j <= len(b); j++ {
			if got := More(More(Sum(b[:i]), b[i:j]), b[j:]); got != want {
				t.Fatalf("P201: More cut at %d and %d: %08X, want %08X", i, j, got, want)
			}
		}
	}
}

func TestP201MoreOfZeroIsSum(t *testing.T) {
	for _, b := range pieces() {
		if got, want := More(0, b), slowSum(b); got != want {
			t.Errorf("P201: More of 0 and %d bytes: %08X, want %08X", len(b), got, want)
		}
	}
}

// TestP201MoreOfNoBytes asks of sums that no bytes at hand have, too: each number is the Sum of some bytes.
func TestP201MoreOfNoBytes(t *testing.T) {
	sums := []uint32{0, 1, 0x12345678, 0xCBF43926, 0xEDB88320, 1 << 31, math.MaxUint32 - 1, math.MaxUint32}
	for k := range 32 {
		sums = append(sums, 1<<k, ^(uint32(1) << k))
	}
	for _, sum := range sums {
		if got := More(sum, nil); got != sum {
			t.Errorf("P201: More of %08X and nil: %08X", sum, got)
		}
		if got := More(sum, []byte{}); got != sum {
			t.Errorf("P201: More of %08X and an empty list: %08X", sum, got)
		}
		for _, b := range [][]byte{{0}, {255}, mixed(9)} {
			if got, want := More(sum, b), crc32.Update(sum, crc32.IEEETable, b); got != want {
				t.Errorf("P201: More of %08X and %v: %08X, want %08X", sum, b, got, want)
			}
		}
	}
}

func TestP201TurnedBitIsSeen(t *testing.T) {
	for _, b := range pieces() {
		want, turned := Sum(b), bytes.Clone(b)
		for i := range turned {
			for k := range 8 {
				turned[i] ^= 1 << k
				if got := Sum(turned); got == want {
					t.Errorf("P201: %d bytes, bit %d of byte %d turned: not seen", len(b), k, i)
				}
				turned[i] ^= 1 << k
			}
		}
	}
}

func TestP201ChangedPlacesAreSeen(t *testing.T) {
	for _, b := range [][]byte{[]byte("123456789"), []byte("\x00\xff"), mixed(100)} {
		want, turned := Sum(b), bytes.Clone(b)
		for i := range turned {
			for j := range i {
				if turned[i] == turned[j] {
					continue
				}
				turned[i], turned[j] = turned[j], turned[i]
				if got := Sum(turned); got == want {
					t.Errorf("P201: %d bytes, those at %d and %d in each other's places: not seen", len(b), i, j)
				}
				turned[i], turned[j] = turned[j], turned[i]
			}
		}
	}
}

// TestP201ZerosAreSeen fails if a sum does not begin with ones: bytes of 0 at the front would leave no mark.
func TestP201ZerosAreSeen(t *testing.T) {
	seen := map[uint32]int{}
	for n := range 300 {
		sum := Sum(make([]byte, n))
		if other, ok := seen[sum]; ok {
			t.Errorf("P201: %d and %d bytes of 0 have one Sum, %08X", other, n, sum)
		}
		seen[sum] = n
	}
	for _, b := range pieces() {
		if Sum(b) == Sum(append([]byte{0}, b...)) {
			t.Errorf("P201: a 0 ahead of %d bytes: not seen", len(b))
		}
	}
}

func TestP202LeavesWhatIsHandedIn(t *testing.T) {
	for _, b := range pieces() {
		room := append(bytes.Clone(b), "spare"...)
		Sum(room[:len(b)])
		More(0xCBF43926, room[:len(b)])
		if string(room) != string(b)+"spare" {
			t.Errorf("P202: %q became %q", string(b)+"spare", room)
		}
	}
}

// TestP202ArgumentsAlone asks the same again with other calls between, in other memory and with other spare room.
func TestP202ArgumentsAlone(t *testing.T) {
	for _, b := range pieces() {
		sum, further := Sum(b), More(77, b)
		for _, between := range pieces() {
			Sum(between)
			More(math.MaxUint32, between)
			roomy := append(make([]byte, 0, len(b)+len(between)), b...)
			copy(roomy[len(b):cap(roomy)], between)
			if got := Sum(roomy); got != sum {
				t.Fatalf("P202: Sum of %d bytes, asked again: %08X, want %08X", len(b), got, sum)
			}
			if got := More(77, roomy); got != further {
				t.Fatalf("P202: More of %d bytes, asked again: %08X, want %08X", len(b), got, further)
			}
		}
	}
}

// TestP202KeepsNothing fails if bytes are remembered by where they stand, or if a slice is looked at after its call.
func TestP202KeepsNothing(t *testing.T) {
	b := []byte("123456789")
	first := Sum(b)
	copy(b, "987654321")
	if got, want := Sum(b), slowSum(b); got != want || first != 0xCBF43926 {
		t.Errorf("P202: Sum of turned bytes: %08X, want %08X", got, want)
	}
	if got := More(first, []byte("a")); got != slowSum([]byte("123456789a")) {
		t.Errorf("P202: More of a Sum whose bytes are turned since: %08X", got)
	}
}
