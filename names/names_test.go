package names

import (
	"math"
	"strings"
	"sync"
	"testing"

	"cooperage/api"
)

// width answers how many bytes the right UTF-8 at the front of s has, and its rune; 0 if there is none. It says the rules of UTF-8 byte by byte, without the language's own.
func width(s string) (int, int) {
	c := int(s[0])
	n, r, low := 0, 0, 0
	switch {
	case c < 0x80:
		return 1, c
	case c >= 0xC0 && c < 0xE0:
		n, r, low = 2, c-0xC0, 0x80
	case c >= 0xE0 && c < 0xF0:
		n, r, low = 3, c-0xE0, 0x800
	case c >= 0xF0 && c < 0xF8:
		n, r, low = 4, c-0xF0, 0x10000
	}
	if n == 0 || len(s) < n {
		return 0, 0
	}
	for i := 1; i < n; i++ {
		if s[i] < 0x80 || s[i] >= 0xC0 {
			return 0, 0
		}
		r = r*64 + int(s[i]) - 0x80
	}
	if r < low || r > 0x10FFFF || r >= 0xD800 && r < 0xE000 {
		return 0, 0
	}
	return n, r
}

// parts answers the texts that s is made of, a rune or a wrong byte each, and their runes (-1: a wrong byte).
func parts(s string) ([]string, []int) {
	var texts []string
	var runes []int
	for len(s) > 0 {
		n, r := width(s)
		if n == 0 {
			n, r = 1, -1
		}
		texts, runes = append(texts, s[:n]), append(runes, r)
		s = s[n:]
	}
	return texts, runes
}

// slowValid says P301's sentence of Valid word by word.
func slowValid(s string) bool {
	_, runes := parts(s)
	if len(runes) < 1 || len(runes) > 40 {
		return false
	}
	for i, r := range runes {
		plain := r >= 'a' && r <= 'z' || r >= '0' && r <= '9'
		later := r == '-' || r == '_' || r == '.'
		far := r >= 161 && r != 173 && r != 65279 && r <= 65535
		if !plain && !later && !far || later && i == 0 {
			return false
		}
	}
	return true
}

// slowCut is the first n of the parts of s; n is not below 0.
func slowCut(s string, n int) string {
	texts, _ := parts(s)
	return strings.Join(texts[:min(n, len(texts))], "")
}

// wrong are rows of bytes in which no byte is right UTF-8: lone ones, cut runes, runes in too many bytes, halves of pairs, and runes above the last one.
func wrong() []string {
	return []string{
		"\xff", "\xfe", "\x80", "\xbf", "\xc0", "\xc1", "\xc3", "\xe6", "\xf0", "\xf4", "\xf5", "\xf8",
		"\xe6\x97", "\xf0\x9f", "\xf0\x9f\x98", "\xef\xbf",
		"\xc0\x80", "\xc1\xbf", "\xe0\x80\x80", "\xe0\x9f\xbf", "\xf0\x80\x80\x80", "\xf0\x8f\xbf\xbf",
		"\xed\xa0\x80", "\xed\xbf\xbf", "\xf4\x90\x80\x80", "\xf7\xbf\xbf\xbf", "\x80\x80\x80",
	}
}

// texts are many texts: those of the edges, and mixtures of all kinds of parts.
func texts() []string {
	kinds := append(wrong(), "a", "z", "0", "9", "-", "_", ".", "A", " ", "/", "é", "\u00a1", "\u00ad", "\ufeff", "\ufffd", "\uffff", "日", "😀", "\x00", "\x7f")
	out := []string{"", "orders-1"}
	for _, a := range kinds {
		for _, b := range kinds {
			out = append(out, a, a+b, "a"+a+b, a+"é"+b, a+b+"z", b+a+b+a)
		}
	}
	x := uint32(7)
	for n := range 400 {
		s := ""
		for range n % 50 {
			x = x*1664525 + 1013904223
			s += kinds[int(x>>16)%len(kinds)]
		}
		out = append(out, s)
	}
	for n := 38; n < 43; n++ {
		for _, k := range kinds {
			out = append(out, strings.Repeat(k, n), "a"+strings.Repeat(k, n-1), strings.Repeat("é", n-1)+k)
		}
	}
	return out
}

func TestP301ValidWritten(t *testing.T) {
	for s, want := range map[string]bool{
		"orders-1": true, "a": true, "z": true, "0": true, "9": true, "a.b_c-9": true, "日本": true, "é-": true, "0.1": true,
		"": false, "A": false, "Z": false, "a b": false, " a": false, "a ": false, "a/b": false, "a\x00": false, "a\n": false, "orders-1\n": false, "Orders": false,
		"`": false, "{": false, "/": false, ":": false, ",": false, "~": false, "a+b": false, "a^": false, "a@": false, "a\x7f": false,
	} {
		if got := Valid(s); got != want {
			t.Errorf("P301: Valid %q: %v", s, got)
		}
	}
}

// TestP301ValidEachRune asks of every rune there is, alone, behind another one and ahead of one.
func TestP301ValidEachRune(t *testing.T) {
	for r := range rune(0x110000) {
		if r >= 0xD800 && r < 0xE000 { // they have no right UTF-8: see TestP301ValidWrongBytes
			continue
		}
		s := string(r)
		plain := r >= 'a' && r <= 'z' || r >= '0' && r <= '9' || r >= 161 && r <= 65535 && r != 173 && r != 65279
		later := r == '-' || r == '_' || r == '.'
		if got := Valid(s); got != plain {
			t.Errorf("P301: Valid of rune %d alone: %v", r, got)
		}
		if got := Valid("a" + s); got != (plain || later) {
			t.Errorf("P301: Valid of rune %d at the end: %v", r, got)
		}
		if got := Valid(s + "a"); got != plain {
			t.Errorf("P301: Valid of rune %d ahead: %v", r, got)
		}
		if got := Valid("é" + s + "日"); got != (plain || later) {
			t.Errorf("P301: Valid of rune %d in the middle: %v", r, got)
		}
	}
}

func TestP301ValidRunesOfTheEdges(t *testing.T) {
	for r, want := range map[rune]bool{127: false, 128: false, 160: false, 161: true, 172: true, 173: false, 174: true, 0xD7FF: true, 0xE000: true, 65278: true, 65279: false, 65280: true, 65533: true, 65534: true, 65535: true, 65536: false, 0x1F600: false, 0x10FFFF: false} {
		for _, s := range []string{string(r), "a" + string(r), string(r) + "a", "a-" + string(r) + ".b"} {
			if got := Valid(s); got != want {
				t.Errorf("P301: Valid %q, with rune %d: %v", s, r, got)
			}
		}
	}
}

func TestP301ValidLengths(t *testing.T) {
	if api.MaxName != 40 {
		t.Fatalf("api.MaxName: %d", api.MaxName)
	}
	for _, k := range []string{"a", "7", "é", "日", "\ufffd", "\uffff"} {
		for n := range 3 * api.MaxName {
			s := strings.Repeat(k, n)
			if got, want := Valid(s), n >= 1 && n <= api.MaxName; got != want {
				t.Errorf("P301: Valid of %d times %q: %v", n, k, got)
			}
		}
	}
	for _, k := range []string{"-", "_", "."} {
		if !Valid("a"+strings.Repeat(k, api.MaxName-1)) || Valid("a"+strings.Repeat(k, api.MaxName)) {
			t.Errorf("P301: Valid of a and many %q", k)
		}
	}
	for _, s := range []string{"a" + strings.Repeat("é", 39), strings.Repeat("日", 39) + "z"} {
		if !Valid(s) || Valid(s+"é") || Valid("0"+s) {
			t.Errorf("P301: Valid of %q and of one more", s)
		}
	}
	if Valid(strings.Repeat("a", 1<<20)) || Valid(strings.Repeat("日", 1<<18)) {
		t.Error("P301: Valid of a long text")
	}
}

func TestP301ValidJoins(t *testing.T) {
	for _, k := range []string{"-", "_", "."} {
		for _, s := range []string{k, k + "a", k + k, k + "é", k + "-", k + "0", k + strings.Repeat("a", 39)} {
			if Valid(s) {
				t.Errorf("P301: Valid %q", s)
			}
		}
		for _, s := range []string{"a" + k, "a" + k + "b", "0" + k + k, "é" + k, "a-_." + k, "日" + k + "日"} {
			if !Valid(s) {
				t.Errorf("P301: not Valid %q", s)
			}
		}
	}
}

// TestP301ValidWrongBytes puts the right UTF-8 of rune 65533 beside wrong bytes, as a range tells both alike.
func TestP301ValidWrongBytes(t *testing.T) {
	for _, w := range wrong() {
		for _, s := range []string{w, w + "a", "a" + w, "a" + w + "b", w + w, "é" + w, w + "é", "日" + w + "本", "\ufffd" + w, w + "\ufffd", "\ufffd" + w + "\ufffd", "a\ufffd-" + w, strings.Repeat("a", 39) + w[:1]} {
			if Valid(s) {
				t.Errorf("P301: Valid %q", s)
			}
		}
	}
	for _, s := range []string{"\ufffd", "\xef\xbf\xbd", "a\ufffd", "\ufffda", "a\ufffdb", "\ufffd\ufffd", "\ufffd-\ufffd"} {
		if !Valid(s) {
			t.Errorf("P301: not Valid %q", s)
		}
	}
}

func TestP301ValidOfMany(t *testing.T) {
	for _, s := range texts() {
		if got, want := Valid(s), slowValid(s); got != want {
			t.Errorf("P301: Valid %q: %v", s, got)
		}
	}
}

func TestP301CountWritten(t *testing.T) {
	for s, want := range map[string]int{
		"": 0, "a": 1, "orders-1": 8, "é": 1, "aé日😀": 4, "\x00": 1, "A b": 3, "\ufffd": 1, "\ufffd\ufffd": 2, "e\u0301": 2, "\ufeff\u00ad": 2, "\U0010ffff": 1,
		"\xff": 1, "\xff\xfe": 2, "\xe6\x97": 2, "\xe6\x97\xa5": 1, "\xe6\x97a": 3, "a\xed\xa0\x80b": 5, "\xc0\x80": 2, "\xf4\x90\x80\x80": 4, "\xf0\x9f\x98": 3, "\ufffd\xff": 2, "\xef\xbf": 2, "\x80é\x80": 3,
	} {
		if got := Count(s); got != want {
			t.Errorf("P301: Count %q: %d, want %d", s, got, want)
		}
	}
}

func TestP301CountOfWrongBytes(t *testing.T) {
	for _, w := range wrong() {
		for s, want := range map[string]int{w: len(w), "a" + w: len(w) + 1, w + "a": len(w) + 1, "é" + w + "日": len(w) + 2, "\ufffd" + w + "\ufffd": len(w) + 2} {
			if got := Count(s); got != want {
				t.Errorf("P301: Count %q: %d, want %d", s, got, want)
			}
		}
	}
}

func TestP301CountOfMany(t *testing.T) {
	for _, s := range texts() {
		all, _ := parts(s)
		if got := Count(s); got != len(all) {
			t.Errorf("P301: Count %q: %d, want %d", s, got, len(all))
		}
	}
	for _, k := range []string{"a", "é", "日", "😀", "\xff"} {
		if got := Count(strings.Repeat(k, 100000)); got != 100000 {
			t.Errorf("P301: Count of 100000 times %q: %d", k, got)
		}
	}
}

func TestP301CutWritten(t *testing.T) {
	s := "aé\xff日😀z"
	for n, want := range map[int]string{math.MinInt: "", -1 << 32: "", -2: "", -1: "", 0: "", 1: "a", 2: "aé", 3: "aé\xff", 4: "aé\xff日", 5: "aé\xff日😀", 6: s, 7: s, 1 << 32: s, math.MaxInt: s} {
		if got := Cut(s, n); got != want {
			t.Errorf("P301: Cut %q, %d: %q, want %q", s, n, got, want)
		}
	}
	for n, want := range map[int]string{-1: "", 0: "", 1: "o", 6: "orders", 7: "orders-", 8: "orders-1", 9: "orders-1"} {
		if got := Cut("orders-1", n); got != want {
			t.Errorf("P301: Cut orders-1, %d: %q, want %q", n, got, want)
		}
	}
}

func TestP301CutOfNoText(t *testing.T) {
	for _, n := range []int{math.MinInt, -1, 0, 1, 40, math.MaxInt} {
		if got := Cut("", n); got != "" {
			t.Errorf("P301: Cut of no text, %d: %q", n, got)
		}
	}
}

// TestP301CutWrongBytes fails if a wrong byte is turned into rune 65533 on the way, or taken with its neighbours.
func TestP301CutWrongBytes(t *testing.T) {
	for _, w := range wrong() {
		s := "\ufffd" + w + "\ufffd"
		for n := range len(w) + 1 {
			if got, want := Cut(s, n+1), "\ufffd"+w[:n]; got != want {
				t.Errorf("P301: Cut %q, %d: %q, want %q", s, n+1, got, want)
			}
			if got, want := Cut(w, n), w[:n]; got != want {
				t.Errorf("P301: Cut %q, %d: %q, want %q", w, n, got, want)
			}
		}
		for n := len(w) + 2; n < len(w)+5; n++ {
			if got := Cut(s, n); got != s {
				t.Errorf("P301: Cut %q, %d: %q", s, n, got)
			}
		}
	}
}

func TestP301CutOfMany(t *testing.T) {
	for _, s := range texts() {
		all := Count(s)
		for n := range all + 3 {
			got := Cut(s, n)
			if want := slowCut(s, n); got != want {
				t.Fatalf("P301: Cut %q, %d: %q, want %q", s, n, got, want)
			}
			if Count(got) != min(n, all) {
				t.Fatalf("P301: Cut %q, %d has %d runes", s, n, Count(got))
			}
		}
		for _, n := range []int{math.MinInt, -1000, -1} {
			if got := Cut(s, n); got != "" {
				t.Fatalf("P301: Cut %q, %d: %q", s, n, got)
			}
		}
		if got := Cut(s, math.MaxInt); got != s {
			t.Fatalf("P301: Cut %q, as many as can be: %q", s, got)
		}
	}
}

// TestP302ArgumentsAlone asks the same again with other calls between, of texts in other memory and ahead of other bytes.
func TestP302ArgumentsAlone(t *testing.T) {
	some := append(wrong(), "", "orders-1", "-a", "aé日😀", strings.Repeat("z", 40), strings.Repeat("z", 41), "\ufffd")
	for _, s := range some {
		valid, count, cut := Valid(s), Count(s), Cut(s, 3)
		for _, between := range some {
			Valid(between)
			Count(between)
			Cut(between, 1)
			other := (between + s + between)[len(between) : len(between)+len(s)]
			if got := Valid(other); got != valid {
				t.Fatalf("P302: Valid %q, asked again: %v", s, got)
			}
			if got := Count(other); got != count {
				t.Fatalf("P302: Count %q, asked again: %d, want %d", s, got, count)
			}
			if got := Cut(other, 3); got != cut {
				t.Fatalf("P302: Cut %q, asked again: %q, want %q", s, got, cut)
			}
		}
	}
}

// TestP302LeavesWhatIsHandedIn hands in texts beside which others stand in the same memory.
func TestP302LeavesWhatIsHandedIn(t *testing.T) {
	for _, s := range texts() {
		whole := strings.Clone("ahead" + s + "behind")
		kept := strings.Clone(whole)
		piece := whole[5 : 5+len(s)]
		Valid(piece)
		Count(piece)
		cut := Cut(piece, 2)
		Cut(piece, -1)
		if whole != kept {
			t.Fatalf("P302: %q became %q", kept, whole)
		}
		if _ = cut + "more"; cut != slowCut(s, 2) {
			t.Fatalf("P302: what was answered of %q became %q", s, cut)
		}
	}
}

// TestP302KeepsNothing asks many at one time: what one call kept would be met by another.
func TestP302KeepsNothing(t *testing.T) {
	some := texts()[:600]
	var all sync.WaitGroup
	for k := range 8 {
		all.Go(func() {
			for i := range some {
				s := some[(i*(2*k+1)+k)%len(some)]
				texts, _ := parts(s)
				if Valid(s) != slowValid(s) || Count(s) != len(texts) || Cut(s, k) != slowCut(s, k) {
					t.Errorf("P302: %q, asked beside others", s)
				}
			}
		})
	}
	all.Wait()
}
