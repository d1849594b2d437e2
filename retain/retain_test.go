package retain

import (
	"math"
	"math/big"
	"reflect"
	"slices"
	"strconv"
	"strings"
	"sync"
	"testing"

	"cooperage/api"
)

// slowOld says by numbers that have no end that c.Age is above 0, and now is more than c.Age behind the Time of s.
func slowOld(s api.Segment, c api.Conf, now int) bool {
	gone := new(big.Int).Sub(big.NewInt(int64(now)), big.NewInt(int64(s.Time)))
	return c.Age > 0 && gone.Cmp(big.NewInt(int64(c.Age))) > 0
}

// slowMuch says by numbers that have no end that c.Keep is above 0, and the Sizes of l are together above it.
func slowMuch(l []api.Segment, c api.Conf) bool {
	sum := new(big.Int)
	for _, s := range l {
		if s.Size >= 0 {
			sum.Add(sum, big.NewInt(int64(s.Size)))
		}
	}
	return c.Keep > 0 && sum.Cmp(big.NewInt(int64(c.Keep))) > 0
}

// slowDrop says P1401's sentence, segment by segment: each time the first of those that are left.
func slowDrop(l []api.Segment, c api.Conf, now int) int {
	left := l
	for len(left) > 0 && left[0].Sealed && (slowOld(left[0], c, now) || slowMuch(left, c)) {
		left = left[1:]
	}
	return len(l) - len(left)
}

// told is l in few words.
func told(l []api.Segment) string {
	words := []string{}
	for _, s := range l {
		w := strconv.Itoa(s.Time) + ":" + strconv.Itoa(s.Size)
		if !s.Sealed {
			w += "!"
		}
		words = append(words, w)
	}
	return strings.Join(words, " ")
}

// drops fails if Drop of l is not want.
func drops(t *testing.T, l []api.Segment, c api.Conf, now, want int) {
	t.Helper()
	if got := Drop(l, c, now); got != want {
		t.Fatalf("P1401: Drop of %q, %+v, %d: %d, want %d", told(l), c, now, got, want)
	}
}

// dropsAsSlow fails if Drop of l is not what the sentence says.
func dropsAsSlow(t *testing.T, l []api.Segment, c api.Conf, now int) {
	t.Helper()
	drops(t, l, c, now, slowDrop(l, c, now))
}

// row makes a list of words: "5:30" has Time 5 and Size 30 and is Sealed, "5:30!" is not.
func row(s string) []api.Segment {
	l := []api.Segment{}
	for _, w := range strings.Fields(s) {
		numbers, open := strings.CutSuffix(w, "!")
		time, size, _ := strings.Cut(numbers, ":")
		l = append(l, api.Segment{Time: number(time), Size: number(size), Sealed: !open})
	}
	return l
}

// number is that of a word: "top" and "low" are the greatest and the least int, with what is to be added behind.
func number(s string) int {
	for name, n := range map[string]int{"top": math.MaxInt, "low": math.MinInt} {
		if more, ok := strings.CutPrefix(s, name); ok {
			if more == "" {
				return n
			}
			return n + number(more)
		}
	}
	n, err := strconv.Atoi(s)
	if err != nil {
		panic(err)
	}
	return n
}

// numbers are ints at the edges, and those about 0.
func numbers() []int {
	return []int{
		math.MinInt, math.MinInt + 1, math.MinInt + 2, math.MinInt/2 - 1, math.MinInt / 2, math.MinInt/2 + 1, math.MinInt32, -api.MaxTime, -2, -1,
		0, 1, 2, api.MaxTime, math.MaxUint32 + 1, math.MaxInt / 2, math.MaxInt/2 + 1, math.MaxInt/2 + 2, math.MaxInt - 2, math.MaxInt - 1, math.MaxInt,
	}
}

// above are those of numbers that are above 0.
func above() []int {
	return slices.DeleteFunc(numbers(), func(n int) bool { return n <= 0 })
}

// below are those of numbers that are not.
func below() []int {
	return slices.DeleteFunc(numbers(), func(n int) bool { return n > 0 })
}

func TestP1401Example(t *testing.T) {
	for _, l := range [][]api.Segment{nil, {}, row("0:9 0:9 0:9")[:0]} {
		drops(t, l, api.Conf{}, 0, 0)
		for _, n := range numbers() {
			drops(t, l, api.Conf{Age: n, Keep: n}, math.MaxInt, 0)
			drops(t, l, api.Conf{Age: 1, Keep: 1}, n, 0)
		}
	}
}

// drop is a call and its answer.
type drop struct {
	l              string
	age, keep, now int
	want           int
	why            string
}

// answers makes a test of each.
func answers(t *testing.T, list []drop) {
	t.Helper()
	for _, x := range list {
		c := api.Conf{Age: x.age, Keep: x.keep}
		if got := Drop(row(x.l), c, x.now); got != x.want {
			t.Errorf("P1401: %s: Drop of %q, Age %d, Keep %d, %d: %d, want %d", x.why, x.l, x.age, x.keep, x.now, got, x.want)
		}
		dropsAsSlow(t, row(x.l), c, x.now)
	}
}

func TestP1401OneSegment(t *testing.T) {
	answers(t, []drop{
		{"10:30", 5, 0, 15, 0, "just Age behind"},
		{"10:30", 5, 0, 16, 1, "one more than Age behind"},
		{"10:30!", 5, 0, 16, 0, "too old, but not Sealed"},
		{"10:30", 0, 30, 0, 0, "just Keep"},
		{"10:30", 0, 29, 0, 1, "one more than Keep"},
		{"10:30!", 0, 29, 0, 0, "too much, but not Sealed"},
		{"10:30", 5, 30, 15, 0, "neither"},
		{"10:30", 5, 30, 16, 1, "too old alone"},
		{"10:30", 5, 29, 15, 1, "too much alone"},
		{"10:30", 5, 29, 16, 1, "both"},
		{"10:30!", 5, 29, 16, 0, "both, but not Sealed"},
		{"10:30", 0, 0, 1000, 0, "no bound"},
		{"10:30!", 0, 0, 1000, 0, "no bound, and not Sealed"},
		{"10:30", 1, 0, 5, 0, "now is ahead of its Time"},
		{"10:0", 0, 1, 1000, 0, "a Size of 0"},
		{"10:1", 0, 1, 1000, 0, "a Size of 1"},
		{"10:2", 0, 1, 1000, 1, "a Size of 2"},
	})
}

func TestP1401Several(t *testing.T) {
	const l = "10:100 20:50 30:30 40:7 0:3!"
	answers(t, []drop{
		{l, 0, 0, 1000, 0, "no bound"},
		{l, 5, 0, 15, 0, "the first one is just Age behind"},
		{l, 5, 0, 16, 1, "the first one is too old"},
		{l, 5, 0, 25, 1, "the second one is just Age behind"},
		{l, 5, 0, 26, 2, "two are too old"},
		{l, 5, 0, 36, 3, "three are too old"},
		{l, 5, 0, 46, 4, "all that are Sealed are too old"},
		{l, 5, 0, 1000, 4, "all are too old"},
		{l, 0, 190, 0, 0, "all together are just Keep"},
		{l, 0, 189, 0, 1, "all together are one more"},
		{l, 0, 90, 0, 1, "without the first one they are just Keep"},
		{l, 0, 89, 0, 2, "without the first one they are one more"},
		{l, 0, 40, 0, 2, "without two they are just Keep"},
		{l, 0, 39, 0, 3, "without two they are one more"},
		{l, 0, 10, 0, 3, "without three they are just Keep"},
		{l, 0, 9, 0, 4, "without three they are one more"},
		{l, 0, 1, 0, 4, "the last one alone is too much, and not Sealed"},
		{l, 5, 90, 26, 2, "two are too old, one is too much"},
		{l, 5, 39, 16, 3, "one is too old, three are too much"},
		{l, 5, 1, 1000, 4, "all are both"},
	})
}

// TestP1401AllSealed has lists no one of which is not Sealed: all may go.
func TestP1401AllSealed(t *testing.T) {
	answers(t, []drop{
		{"1:5 2:5 3:5", 1, 0, 4, 2, "the last one is just Age behind"},
		{"1:5 2:5 3:5", 1, 0, 5, 3, "all are too old"},
		{"1:5 2:5 3:5", 0, 5, 0, 2, "the last one is just Keep"},
		{"1:5 2:5 3:5", 0, 4, 0, 3, "all are too much"},
		{"1:5 2:5 3:5", 1, 4, 5, 3, "all are both"},
		{"1:5 2:5 3:5", 1, 4, 0, 3, "all are too much, none is too old"},
		{"1:5 2:5 3:5", 1, 100, 5, 3, "all are too old, none is too much"},
		{"1:0 2:0 3:0", 0, 1, 5, 0, "no Sizes"},
	})
}

// TestP1401NotSealed has one that is not Sealed in each place: it stops it, whatever stands behind.
func TestP1401NotSealed(t *testing.T) {
	answers(t, []drop{
		{"1:5! 1:5 1:5", 1, 1, 1000, 0, "the first one"},
		{"1:5 1:5! 1:5", 1, 1, 1000, 1, "the second one"},
		{"1:5 1:5 1:5!", 1, 1, 1000, 2, "the last one"},
		{"1:5 1:5! 1:5!", 1, 1, 1000, 1, "two of them"},
		{"1:5 1:5! 1:5 1:5!", 1, 0, 1000, 1, "a Sealed one behind is too old"},
		{"1:5 1:5! 1:5 1:5!", 0, 1, 1000, 1, "a Sealed one behind is too much"},
		{"0:5! low:5 low:5", 1, 0, math.MaxInt, 0, "however old those behind are"},
		{"0:0! 0:top 0:top", 0, 1, 0, 0, "however much those behind are"},
	})
	for place := range 20 {
		l := row(strings.Repeat("0:9 ", 20))
		l[place].Sealed = false
		drops(t, l, api.Conf{Age: 1}, 100, place)
		drops(t, l, api.Conf{Keep: 1}, 100, place)
		drops(t, l, api.Conf{Age: 1, Keep: 1}, 100, place)
	}
}

// TestP1401InOrder has those that are neither too old nor too much ahead of others, and both bounds in turn.
func TestP1401InOrder(t *testing.T) {
	answers(t, []drop{
		{"9:5 1:5 9:5", 5, 0, 10, 0, "the second one alone is too old"},
		{"1:5 9:5 1:5", 5, 0, 10, 1, "the third one is too old, too"},
		{"1:5 9:5 1:5 1:5!", 5, 20, 10, 1, "the Sizes are just Keep, and the third one is too old"},
		{"3:5 2:5 1:5", 5, 0, 7, 0, "the Times fall, and two behind are too old"},
		{"3:5 2:5 1:5", 5, 0, 9, 3, "the Times fall, and all are too old"},
		{"2:5 2:5 2:5", 5, 0, 7, 0, "the Times stand still"},
		{"2:5 2:5 2:5", 5, 0, 8, 3, "the Times stand still, and all are too old"},
		{"1:5 9:5 9:5 0:5!", 5, 14, 10, 2, "the first one goes for its Age and Keep, the next one for Keep"},
		{"1:5 9:5 9:5 0:5!", 5, 15, 10, 1, "the first one goes for its Age, the next one is just Keep"},
		{"9:5 1:5 9:5 0:5!", 5, 19, 10, 2, "the first one goes for Keep, the next one for its Age"},
		{"9:5 1:5 9:5 0:5!", 5, 20, 10, 0, "the first one is just Keep, the next one is too old"},
		{"9:5 1:5 9:5 1:5 0:5!", 5, 24, 10, 2, "Keep, Age, then neither, then Age"},
		{"9:50 1:5 9:5 1:5 0:5!", 5, 14, 10, 4, "Keep, Age and Keep, Keep, Age"},
		{"9:50 1:5 9:5 1:5 0:5!", 5, 15, 10, 2, "Keep, Age, then just Keep"},
	})
}

// TestP1401WhichSizes tells which Sizes count: those of what is gone do not, all others do.
func TestP1401WhichSizes(t *testing.T) {
	answers(t, []drop{
		{"0:1000 0:5 0:5!", 0, 10, 0, 1, "what is gone for Keep counts no more"},
		{"0:1000 9:5 9:5!", 5, 10, 10, 1, "what is gone for its Age counts no more"},
		{"0:1 0:1 0:100!", 0, 99, 0, 2, "what is not Sealed counts"},
		{"0:1 0:1 0:100!", 0, 100, 0, 2, "what is not Sealed counts together with the others"},
		{"0:1 0:1 0:100!", 0, 101, 0, 1, "what is not Sealed counts together with the others"},
		{"0:1 0:1 0:100!", 0, 102, 0, 0, "what is not Sealed counts together with the others"},
		{"0:1 0:0! 0:100", 0, 100, 0, 1, "what is behind one that is not Sealed counts"},
		{"0:1 0:0! 0:100", 0, 101, 0, 0, "what is behind one that is not Sealed counts"},
		{"0:0 0:0 0:5 0:5", 0, 9, 0, 3, "Sizes of 0 go with those behind them"},
		{"0:0 0:0 0:5 0:0", 0, 4, 0, 3, "a Size of 0 has nothing behind it"},
		{"0:5 0:0 0:0 0:5", 0, 5, 0, 1, "Sizes of 0 stay with those behind them"},
	})
	for remote := range 8 {
		l := row("0:10 0:20 0:30")
		for i := range l {
			l[i].Remote = remote>>i&1 == 1
		}
		for keep, want := range map[int]int{60: 0, 59: 1, 50: 1, 49: 2, 30: 2, 29: 3} {
			drops(t, l, api.Conf{Keep: keep}, 0, want)
		}
	}
}

// TestP1401SizesBelowZero counts them as 0, wherever they stand.
func TestP1401SizesBelowZero(t *testing.T) {
	answers(t, []drop{
		{"0:5 0:-3 0:5", 0, 9, 0, 1, "in the middle"},
		{"0:5 0:-3 0:5", 0, 10, 0, 0, "in the middle"},
		{"0:5 0:-3 0:5", 0, 4, 0, 3, "it goes for what is behind it"},
		{"0:-9 0:5 0:5", 0, 9, 0, 2, "the first one"},
		{"0:-9 0:5 0:5", 0, 10, 0, 0, "the first one"},
		{"0:5 0:5 0:-9", 0, 5, 0, 1, "the last one"},
		{"0:5 0:5 0:-9", 0, 4, 0, 2, "the last one"},
		{"0:-1 0:-1 0:-1", 0, 1, 0, 0, "all of them"},
		{"0:low 0:low 0:1", 0, 1, 0, 0, "the least ones"},
		{"0:low 0:low 0:2", 0, 1, 0, 3, "the least ones"},
		{"0:low 0:low 0:low", 0, 1, 0, 0, "their sum has no place in an int"},
		{"0:2 0:low 0:low", 0, 1, 0, 1, "their sum has no place in an int"},
		{"0:low 0:-1", 0, 1, 0, 0, "their sum would be the greatest int"},
		{"0:2 0:low+1 0:low+1 0:-2", 0, 1, 0, 1, "their sum would be 0"},
	})
	for _, size := range below() {
		for _, keep := range above() {
			l := []api.Segment{{Size: size, Sealed: true}, {Size: keep, Sealed: true}, {Size: size, Sealed: true}, {Size: 0, Sealed: true}}
			drops(t, l, api.Conf{Keep: keep}, 0, 0)
			if keep > 1 {
				drops(t, l, api.Conf{Keep: keep - 1}, 0, 2)
			}
		}
	}
}

// TestP1401AgeEdges has now just Age behind each Time, one less, and one more.
func TestP1401AgeEdges(t *testing.T) {
	tries := 0
	for _, time := range numbers() {
		for _, age := range above() {
			if time > math.MaxInt-age-1 {
				continue
			}
			tries++
			l := []api.Segment{{Time: time, Sealed: true}}
			c := api.Conf{Age: age}
			drops(t, l, c, time+age-1, 0)
			drops(t, l, c, time+age, 0)
			drops(t, l, c, time+age+1, 1)
			drops(t, l, c, time, 0)
			drops(t, l, c, math.MinInt, 0)
			drops(t, l, c, math.MaxInt, 1)
		}
	}
	if tries < 100 {
		t.Errorf("only %d tries", tries)
	}
}

// TestP1401AgeNoEnd has now, Age and Times whose differences have no place in an int.
func TestP1401AgeNoEnd(t *testing.T) {
	for _, time := range numbers() {
		l := []api.Segment{{Time: time, Sealed: true}}
		open := []api.Segment{{Time: time}}
		for _, now := range numbers() {
			for _, age := range numbers() {
				dropsAsSlow(t, l, api.Conf{Age: age}, now)
				drops(t, open, api.Conf{Age: age}, now, 0)
			}
		}
	}
	// Named ones, so that no other way of counting stands between.
	top, low := math.MaxInt, math.MinInt
	answers(t, []drop{
		{"low:0", top, 0, top, 1, "twice the greatest and one behind"},
		{"low:0", 1, 0, top, 1, "twice the greatest and one behind"},
		{"low:0", top, 0, -1, 0, "just the greatest behind"},
		{"low:0", top, 0, 0, 1, "one more than the greatest behind"},
		{"0:0", top, 0, top, 0, "just the greatest behind"},
		{"-1:0", top, 0, top, 1, "one more than the greatest behind"},
		{"-2:0", top, 0, top, 1, "two more than the greatest behind"},
		{"top:0", 1, 0, low, 0, "twice the greatest and one ahead"},
		{"top:0", top, 0, low, 0, "twice the greatest and one ahead"},
		{"top:0", 1, 0, -2, 0, "one more than the greatest ahead"},
		{"top:0", top, 0, -2, 0, "one more than the greatest ahead"},
		{"1:0", 1, 0, low, 0, "one more than the greatest ahead"},
		{"top:0", 1, 0, top, 0, "the same time"},
		{"low:0", 1, 0, low, 0, "the same time"},
		{"low:0", 1, 0, low + 1, 0, "just 1 behind"},
		{"low:0", 1, 0, low + 2, 1, "2 behind"},
		{"top-2:0", 1, 0, top, 1, "2 behind"},
		{"top-1:0", 1, 0, top, 0, "just 1 behind"},
	})
}

// TestP1401KeepEdges has Sizes that are together just Keep, and one more, in one segment, in two and in three.
func TestP1401KeepEdges(t *testing.T) {
	for _, keep := range above() {
		c := api.Conf{Keep: keep}
		for _, first := range numbers() {
			if first < 0 || first > keep {
				continue
			}
			l := row("0:0 0:0 0:0")
			l[0].Size, l[1].Size = first, keep-first
			drops(t, l, c, 0, 0)
			l[2].Size = 1
			want := 1
			if first == 0 {
				want = 2
			}
			drops(t, l, c, 0, want)
		}
		drops(t, []api.Segment{{Size: keep, Sealed: true}}, c, 0, 0)
		if keep < math.MaxInt {
			drops(t, []api.Segment{{Size: keep + 1, Sealed: true}}, c, 0, 1)
		}
	}
}

// TestP1401KeepNoEnd has Sizes whose sum has no place in an int, some of them with none in a uint either.
func TestP1401KeepNoEnd(t *testing.T) {
	for _, first := range numbers() {
		for _, next := range numbers() {
			for _, keep := range numbers() {
				l := []api.Segment{{Size: first, Sealed: true}, {Size: next, Sealed: true}}
				dropsAsSlow(t, l, api.Conf{Keep: keep}, 0)
				dropsAsSlow(t, append(l, l...), api.Conf{Keep: keep}, 0)
			}
		}
	}
	// Named ones, so that no other way of counting stands between.
	top := math.MaxInt
	half := strconv.Itoa(top/2 + 1)
	answers(t, []drop{
		{"0:top", 0, top, 0, 0, "just Keep"},
		{"0:top 0:0", 0, top, 0, 0, "just Keep"},
		{"0:top 0:1", 0, top, 0, 1, "the sum is the least int"},
		{"0:1 0:top", 0, top, 0, 1, "the sum is the least int"},
		{"0:top 0:top", 0, top, 0, 1, "the sum is -2"},
		{"0:top 0:top 0:1", 0, top, 0, 2, "the sum is -1"},
		{"0:top 0:top 0:2", 0, top, 0, 2, "the sum is 0"},
		{"0:top 0:top 0:1 0:1", 0, 5, 0, 2, "the sum is 0"},
		{"0:top 0:top 0:3", 0, 3, 0, 2, "the sum is 1"},
		{"0:2 0:top 0:top 0:0", 0, top, 0, 2, "the sum is 0 with the first one alone"},
		{"0:0 0:2 0:top 0:top", 0, 1, 0, 4, "the sum is 0 with two alone"},
		{"0:" + half + " 0:" + half + " 0:" + half + " 0:" + half, 0, top, 0, 3, "the sum is 0"},
		{"0:1 0:0 0:0 0:0 0:top 0:0!", 0, top, 0, 1, "together only with those far behind"},
		{"0:1 0:0 0:0 0:0 0:0 0:top!", 0, top, 0, 1, "together only with the one that is not Sealed"},
		{"0:0 0:0 0:0 0:0 0:0 0:top!", 0, top, 0, 0, "just Keep"},
	})
	for _, count := range []int{2, 3, 4, 5, 8, 16, 17, 1000} {
		l := row(strings.Repeat("0:top ", count))
		drops(t, l, api.Conf{Keep: top}, 0, count-1)
		drops(t, l, api.Conf{Keep: top - 1}, 0, count)
		l[count-1].Sealed = false
		drops(t, l, api.Conf{Keep: 1}, 0, count-1)
	}
}

// TestP1401NoBound gives one of the two a number that is not above 0: the other one alone counts.
func TestP1401NoBound(t *testing.T) {
	l := row("10:100 20:50 30:30 0:3!")
	for _, n := range below() {
		for _, now := range numbers() {
			drops(t, l, api.Conf{Age: n, Keep: n}, now, 0)
			drops(t, l, api.Conf{Age: n, Keep: 50}, now, 2)
			drops(t, l, api.Conf{Age: n, Keep: math.MaxInt}, now, 0)
		}
		drops(t, l, api.Conf{Age: 5, Keep: n}, 26, 2)
		drops(t, l, api.Conf{Age: math.MaxInt, Keep: n}, 26, 0)
		drops(t, row("0:top 0:top"), api.Conf{Keep: n}, 0, 0)
		drops(t, row("low:0 low:0"), api.Conf{Age: n}, math.MaxInt, 0)
		drops(t, row("0:low 0:0 0:-1"), api.Conf{Keep: n}, 0, 0)
	}
}

// blank gives every field that is not asked for some number, and some records.
func blank(l []api.Segment, p *picker) []api.Segment {
	out := slices.Clone(l)
	for i := range out {
		s := &out[i]
		s.Base, s.Next, s.Gen, s.Sum = p.number(), p.number(), p.number(), uint32(p.number())
		s.Clean, s.Remote = p.pick(2) == 0, p.pick(2) == 0
		for range p.pick(4) {
			s.Records = append(s.Records, api.Record{Offset: p.number(), Time: p.number(), Key: "k", Value: "v", Dead: p.pick(2) == 0})
		}
	}
	return out
}

// TestP1401HeedsNoOtherField gives what is not asked for any numbers: Drop is the same.
func TestP1401HeedsNoOtherField(t *testing.T) {
	for seed := range 3000 {
		p := &picker{x: uint32(seed)}
		l, c, now := p.list(8), p.conf(), p.number()
		want := slowDrop(l, c, now)
		for range 3 {
			c.Segment, c.Grace = p.number(), p.number()
			drops(t, blank(l, p), c, now, want)
		}
	}
	// One field at a time, with what would turn the answer if it counted.
	for _, turn := range []func(s *api.Segment, n int){
		func(s *api.Segment, n int) { s.Base = n },
		func(s *api.Segment, n int) { s.Next = n },
		func(s *api.Segment, n int) { s.Gen = n },
		func(s *api.Segment, n int) { s.Sum = uint32(n) },
		func(s *api.Segment, n int) { s.Clean = n > 0 },
		func(s *api.Segment, n int) { s.Remote = n > 0 },
		func(s *api.Segment, n int) { s.Records = []api.Record{{Offset: n, Time: n, Key: "k", Value: "value"}} },
	} {
		for _, n := range numbers() {
			for place := range 4 {
				l := row("10:100 20:50 30:30 0:3!")
				turn(&l[place], n)
				drops(t, l, api.Conf{Age: 5}, 26, 2)
				drops(t, l, api.Conf{Keep: 83}, 26, 1)
				drops(t, l, api.Conf{Keep: 82}, 26, 2)
				drops(t, l, api.Conf{}, 26, 0)
			}
		}
	}
}

// smallRows calls with each list of up to most segments of some Times and Sizes, Sealed and not.
func smallRows(most int, call func(l []api.Segment)) {
	sizes := []int{-2, 0, 1, 3}
	var in func(l []api.Segment)
	in = func(l []api.Segment) {
		call(l)
		if len(l) == most {
			return
		}
		for k := range 16 {
			in(append(slices.Clone(l), api.Segment{Time: 4 * (k & 1), Sealed: k&2 == 0, Size: sizes[k>>2]}))
		}
	}
	in(nil)
}

func TestP1401AllSmallRows(t *testing.T) {
	smallRows(4, func(l []api.Segment) {
		for age := range 3 {
			for _, keep := range []int{-1, 0, 1, 3, 4, 7} {
				dropsAsSlow(t, l, api.Conf{Age: age, Keep: keep}, 5)
			}
		}
	})
}

// picker picks numbers by a seed alone.
type picker struct{ x uint32 }

func (p *picker) pick(n int) int {
	p.x = p.x*1664525 + 1013904223
	return int(p.x>>16) % n
}

// number is one about 0, or one at an edge.
func (p *picker) number() int {
	if p.pick(8) == 0 {
		return numbers()[p.pick(len(numbers()))]
	}
	return p.pick(60) - 5
}

// list has up to count segments, most of them Sealed.
func (p *picker) list(count int) []api.Segment {
	l := []api.Segment{}
	for range p.pick(count + 1) {
		l = append(l, api.Segment{Time: p.number(), Size: p.number(), Sealed: p.pick(8) > 0})
	}
	return l
}

// conf has an Age of about some Times, and a Keep of about some Sizes.
func (p *picker) conf() api.Conf {
	c := api.Conf{Age: p.number(), Keep: p.number()}
	if p.pick(2) == 0 {
		c.Keep = p.pick(400)
	}
	return c
}

func TestP1401OfMany(t *testing.T) {
	counts := map[string]int{}
	for seed := range 60000 {
		p := &picker{x: uint32(seed)}
		l, c, now := p.list(12), p.conf(), p.number()
		dropsAsSlow(t, l, c, now)
		switch n := Drop(l, c, now); n {
		case 0:
			counts["none"]++
		case len(l):
			counts["all"]++
		default:
			counts["some"]++
		}
	}
	for _, kind := range []string{"none", "all", "some"} {
		if counts[kind] < 1000 {
			t.Errorf("Drop answered %s of the segments only %d times", kind, counts[kind])
		}
	}
}

// TestP1401GreatList ends in time only if the time does not grow by the square of the list.
func TestP1401GreatList(t *testing.T) {
	const count = 500000
	l := make([]api.Segment, count)
	for i := range l {
		l[i] = api.Segment{Time: i, Size: 10, Sealed: true}
	}
	drops(t, l, api.Conf{Keep: 9}, 0, count)
	drops(t, l, api.Conf{Keep: 10}, 0, count-1)
	drops(t, l, api.Conf{Keep: 10 * count}, 0, 0)
	drops(t, l, api.Conf{Keep: 10*count - 1}, 0, 1)
	drops(t, l, api.Conf{Keep: 5 * count}, 0, count/2)
	drops(t, l, api.Conf{Age: 1}, count, count-1)
	drops(t, l, api.Conf{Age: 1}, count+1, count)
	drops(t, l, api.Conf{Age: 1, Keep: 10*count - 1}, count, count-1)
}

// roomy is a list of some segments with records, each list with others in its spare room.
func roomy() ([]api.Segment, []api.Segment) {
	whole := row("10:100 20:50 30:30 0:3! 1:9 2:9 3:9")
	for i := range whole {
		records := []api.Record{{Offset: i, Time: 8, Key: "a", Value: "v"}, {Offset: i + 1, Time: 9, Key: "b", Dead: true}, {Offset: 99, Key: "spare"}}
		whole[i].Base, whole[i].Next, whole[i].Gen, whole[i].Sum, whole[i].Clean, whole[i].Remote = i, i+2, 3, 77, i > 1, i < 1
		whole[i].Records = records[:2]
	}
	return whole[:4], whole
}

// rooms are the whole lists of records, with their spare rooms.
func rooms(l []api.Segment) [][]api.Record {
	out := [][]api.Record{}
	for _, s := range l {
		out = append(out, s.Records[:cap(s.Records)])
	}
	return out
}

// TestP1402ArgumentsStay looks whether a call writes to what was handed in, or behind it.
func TestP1402ArgumentsStay(t *testing.T) {
	l, whole := roomy()
	_, was := roomy()
	for _, age := range []int{-1, 0, 1, 5, 100} {
		for _, keep := range []int{-1, 0, 1, 3, 50, 82, 83, 1000} {
			for _, now := range []int{-5, 0, 16, 26, 36, 1000} {
				Drop(l, api.Conf{Age: age, Keep: keep}, now)
				Drop(whole, api.Conf{Age: age, Keep: keep}, now)
				if !reflect.DeepEqual(whole, was) || !reflect.DeepEqual(rooms(whole), rooms(was)) {
					t.Fatalf("P1402: Drop by %d, %d, %d changed what was handed in: %+v", age, keep, now, whole)
				}
			}
		}
	}
}

// TestP1402NotKept changes what was handed in, at the same place: the next answer is that of what it is now.
func TestP1402NotKept(t *testing.T) {
	l := row("1:5 2:5 3:5 4:5!")
	c := api.Conf{Age: 5}
	for _, x := range []struct {
		turn func()
		want int
	}{
		{func() {}, 3},
		{func() { l[1].Time = 100 }, 1},
		{func() { l[1].Time, l[2].Sealed = 2, false }, 2},
		{func() { c.Age = 100 }, 0},
		{func() { c.Keep = 15 }, 1},
		{func() { l[3].Size = 6 }, 2},
		{func() { l[0].Sealed = false }, 0},
		{func() { l = l[1:] }, 1},
		{func() { l = l[:2] }, 0},
	} {
		x.turn()
		drops(t, l, c, 10, x.want)
		dropsAsSlow(t, l, c, 10)
	}
}

// TestP1402SameTwice fails if an answer hangs on anything but the arguments: calls of other lists stand between.
func TestP1402SameTwice(t *testing.T) {
	for seed := range 2000 {
		p, q := &picker{x: uint32(seed)}, &picker{x: uint32(seed)}
		l, same := p.list(20), q.list(20)
		c, now := p.conf(), p.number()
		want := Drop(l, c, now)
		for range 3 {
			Drop(p.list(20), p.conf(), p.number())
			// Neither the place of the list nor its room counts.
			if Drop(same, c, now) != want || Drop(slices.Clip(same), c, now) != want || Drop(slices.Grow(same, 50), c, now) != want {
				t.Fatalf("P1402: of %q another answer came", told(l))
			}
		}
	}
}

// TestP1402ManyAtOnce calls beside each other: the calls have nothing in common (go test -race tells more).
func TestP1402ManyAtOnce(t *testing.T) {
	l, _ := roomy()
	wrong := make([]int, 16)
	var all sync.WaitGroup
	for i := range wrong {
		c := api.Conf{Age: 5, Keep: 40 * (i % 4)}
		want := slowDrop(l, c, 16)
		all.Go(func() {
			for range 500 {
				if Drop(l, c, 16) != want {
					wrong[i]++
				}
			}
		})
	}
	all.Wait()
	for i, n := range wrong {
		if n > 0 {
			t.Errorf("P1402: %d of the calls beside others, number %d, answered something else", n, i)
		}
	}
}
