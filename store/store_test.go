package store

import (
	"bytes"
	"math"
	"slices"
	"sort"
	"strings"
	"sync"
	"testing"

	"cooperage/api"
)

type slowObject struct{ name, bytes string }

// slowStore says the chapter's sentences by a plain list of objects, with nothing counted ahead, and a count of the numbers that were taken.
type slowStore struct {
	room    int
	objects []slowObject
	fails   []int
	taken   int
}

// wrongNames are none of names.Valid, for one reason each.
func wrongNames() []string {
	return []string{"", "A", "-a", ".a", "_a", "a b", "a/b", "a\x00", "\xff", "a\xc3", "\u00ad", "😀", strings.Repeat("a", 41)}
}

// rightNames are at the edges of names.Valid; the byte order of some is not the one of their lengths.
func rightNames() []string {
	return []string{"a", "b", "ab", "a-", "a.b", "0", "9_", "é", "日本", "\uffff", "z", strings.Repeat("日", 40), strings.Repeat("a", 40)}
}

func slowRight(name string) bool {
	return !slices.Contains(wrongNames(), name)
}

func (s *slowStore) at(name string) int {
	return slices.IndexFunc(s.objects, func(o slowObject) bool { return o.name == name })
}

// why tells the error that a call on an object of that name has by itself.
func (s *slowStore) why(name string) api.Errno {
	switch {
	case !slowRight(name):
		return api.ErrName
	case s.at(name) < 0:
		return api.ErrNone
	}
	return api.OK
}

// usedWithout tells how many bytes the objects have in all, but for the one of that name.
func (s *slowStore) usedWithout(name string) int {
	n := 0
	for _, o := range s.objects {
		if o.name != name {
			n += len(o.bytes)
		}
	}
	return n
}

func (s *slowStore) names() []string {
	out := []string{}
	for _, o := range s.objects {
		out = append(out, o.name)
	}
	sort.Strings(out)
	return out
}

// turn takes the next number: whether anything is done, and what is told if no other error is.
func (s *slowStore) turn() (bool, api.Errno) {
	if s.taken == len(s.fails) {
		return true, api.OK
	}
	s.taken++
	switch s.fails[s.taken-1] {
	case 0:
		return true, api.OK
	case 2:
		return true, api.ErrDown
	}
	return false, api.ErrDown
}

func (s *slowStore) put(name, b string) api.Errno {
	done, e := s.turn()
	if !done {
		return e
	}
	if !slowRight(name) {
		return api.ErrName
	}
	if s.usedWithout(name)+len(b) > s.room {
		return api.ErrFull
	}
	s.take(name)
	s.objects = append(s.objects, slowObject{name, b})
	return e
}

func (s *slowStore) take(name string) {
	s.objects = slices.DeleteFunc(s.objects, func(o slowObject) bool { return o.name == name })
}

func (s *slowStore) get(name string) (string, api.Errno) {
	done, e := s.turn()
	if !done {
		return "", e
	}
	if f := s.why(name); f != api.OK {
		return "", f
	}
	if e != api.OK {
		return "", e
	}
	return s.objects[s.at(name)].bytes, api.OK
}

func (s *slowStore) delete(name string) api.Errno {
	done, e := s.turn()
	if !done {
		return e
	}
	if f := s.why(name); f != api.OK {
		return f
	}
	s.take(name)
	return e
}

func (s *slowStore) list() ([]string, api.Errno) {
	if _, e := s.turn(); e != api.OK {
		return nil, e
	}
	return s.names(), api.OK
}

// copied answers a store as s, without the numbers of Fail that are left: one that can be asked without taking any.
func copied(s *Store) *Store {
	c := New(s.room)
	for name, b := range s.objects {
		c.Put(name, b)
	}
	return c
}

// same fails if s has not the objects of w, or not as much room left.
func same(t *testing.T, promise string, s *Store, w *slowStore) {
	t.Helper()
	c := copied(s)
	if got, e := c.List(); !slices.Equal(got, w.names()) || e != api.OK {
		t.Fatalf("%s: List: %q, %d, want %q", promise, got, e, w.names())
	}
	for _, o := range w.objects {
		if b, e := c.Get(o.name); string(b) != o.bytes || e != api.OK {
			t.Fatalf("%s: Get %q: %q, %d, want %q", promise, o.name, b, e, o.bytes)
		}
	}
	if got, want := s.used, w.usedWithout(""); got != want {
		t.Fatalf("%s: %d bytes in all, want %d", promise, got, want)
	}
}

// is fails if a call's error is not the wanted one.
func is(t *testing.T, what string, got, want api.Errno) {
	t.Helper()
	if got != want {
		t.Fatalf("P701: %s: %d, want %d", what, got, want)
	}
}

// holds fails if the object is not of these bytes.
func holds(t *testing.T, s *Store, name, want string) {
	t.Helper()
	if b, e := s.Get(name); string(b) != want || e != api.OK {
		t.Fatalf("P701: Get %q: %q, %d, want %q", name, b, e, want)
	}
}

// getFails fails if Get does not tell that error, and nothing beside it.
func getFails(t *testing.T, s *Store, name string, want api.Errno) {
	t.Helper()
	if b, e := s.Get(name); len(b) != 0 || e != want {
		t.Fatalf("P701: Get %q: %q, %d, want %d", name, b, e, want)
	}
}

// lists fails if these are not the names.
func lists(t *testing.T, s *Store, want ...string) {
	t.Helper()
	if l, e := s.List(); !slices.Equal(l, want) || e != api.OK {
		t.Fatalf("P701: List: %q, %d, want %q", l, e, want)
	}
}

// listFails fails if List does not tell ErrDown, and nothing beside it.
func listFails(t *testing.T, s *Store) {
	t.Helper()
	if l, e := s.List(); len(l) != 0 || e != api.ErrDown {
		t.Fatalf("P701: List: %q, %d, want %d", l, e, api.ErrDown)
	}
}

// filled answers a store of room 10 with "abcd" in a, "123" in b and no bytes in c.
func filled() *Store {
	s := New(10)
	s.Put("c", nil)
	s.Put("b", []byte("123"))
	s.Put("a", []byte("abcd"))
	return s
}

// filledSlow is what filled answers, for same.
func filledSlow() *slowStore {
	return &slowStore{room: 10, objects: []slowObject{{"c", ""}, {"b", "123"}, {"a", "abcd"}}}
}

func TestP701Example(t *testing.T) {
	s := New(9)
	s.Fail([]int{1})
	is(t, "Put", s.Put("a", []byte("x")), api.ErrDown)
	is(t, "Put again", s.Put("a", []byte("x")), api.OK)
	holds(t, s, "a", "x")
}

func TestP701Empty(t *testing.T) {
	for _, s := range []*Store{New(0), New(5), New(-1), New(math.MinInt), New(math.MaxInt), {}} {
		lists(t, s)
		getFails(t, s, "a", api.ErrNone)
		is(t, "Delete", s.Delete("a"), api.ErrNone)
		s.Fail([]int{1, 2})
		listFails(t, s)
		listFails(t, s)
		lists(t, s)
	}
}

func TestP701InTurns(t *testing.T) {
	s := New(100)
	is(t, "Put", s.Put("b", []byte("12")), api.OK)
	is(t, "Put", s.Put("a", []byte("x\x00\xff")), api.OK)
	holds(t, s, "b", "12")
	holds(t, s, "a", "x\x00\xff")
	lists(t, s, "a", "b")
	is(t, "Put anew", s.Put("b", []byte("3")), api.OK)
	holds(t, s, "b", "3")
	is(t, "Put of the same", s.Put("b", []byte("3")), api.OK)
	holds(t, s, "b", "3")
	lists(t, s, "a", "b")
	is(t, "Delete", s.Delete("a"), api.OK)
	getFails(t, s, "a", api.ErrNone)
	is(t, "Delete again", s.Delete("a"), api.ErrNone)
	lists(t, s, "b")
	is(t, "Put once more", s.Put("a", []byte("new")), api.OK)
	holds(t, s, "a", "new")
	holds(t, s, "b", "3")
	lists(t, s, "a", "b")
}

func TestP701Room(t *testing.T) {
	for _, s := range []*Store{New(0), New(-1), New(-5), New(math.MinInt), {}} {
		is(t, "Put of a byte to no room", s.Put("a", []byte("x")), api.ErrFull)
		getFails(t, s, "a", api.ErrNone)
		is(t, "Put of none to no room", s.Put("a", nil), api.OK)
		is(t, "Put of a byte to no room", s.Put("a", []byte("x")), api.ErrFull)
		holds(t, s, "a", "")
		lists(t, s, "a")
	}
	for _, room := range []int{1, 2, 10, 1000} {
		s, b := New(room), bytes.Repeat([]byte("x"), room+1)
		is(t, "Put of one more than room", s.Put("a", b), api.ErrFull)
		getFails(t, s, "a", api.ErrNone)
		is(t, "Put of all room", s.Put("a", b[1:]), api.OK)
		is(t, "Put of one more", s.Put("b", b[:1]), api.ErrFull)
		getFails(t, s, "b", api.ErrNone)
		is(t, "Put of none more", s.Put("b", nil), api.OK)
		is(t, "Put of one more over none", s.Put("b", b[:1]), api.ErrFull)
		is(t, "Put of one more than room in its place", s.Put("a", b), api.ErrFull)
		holds(t, s, "a", string(b[1:]))
		holds(t, s, "b", "")
		lists(t, s, "a", "b")
	}
	s := New(math.MaxInt)
	is(t, "Put to the greatest room", s.Put("a", []byte("abc")), api.OK)
	is(t, "Put to the greatest room", s.Put("b", []byte("def")), api.OK)
	is(t, "Put to the greatest room", s.Put("a", []byte("ghij")), api.OK)
	holds(t, s, "a", "ghij")
	holds(t, s, "b", "def")
}

// TestP701InItsPlace puts objects of all lengths in place of others in a store that is full, or full but for a byte.
func TestP701InItsPlace(t *testing.T) {
	for room := 7; room <= 8; room++ {
		for n := range 10 {
			s := New(room)
			s.Put("a", []byte("abcd"))
			s.Put("b", []byte("123"))
			long := bytes.Repeat([]byte("x"), n)
			left := room - 3
			if n > left {
				is(t, "Put in place of a shorter one, above room", s.Put("a", long), api.ErrFull)
				holds(t, s, "a", "abcd")
				left = room - 7
			} else {
				is(t, "Put in its place", s.Put("a", long), api.OK)
				holds(t, s, "a", string(long))
				left -= n
			}
			holds(t, s, "b", "123")
			is(t, "Put of one more than is free", s.Put("c", make([]byte, left+1)), api.ErrFull)
			is(t, "Put of all that is free", s.Put("c", make([]byte, left)), api.OK)
			is(t, "Put of a byte more", s.Put("d", []byte("x")), api.ErrFull)
			lists(t, s, "a", "b", "c")
		}
	}
}

// TestP701RoomComesBack fails if what is gone is not free for other bytes, or more than that is.
func TestP701RoomComesBack(t *testing.T) {
	for what, c := range map[string]struct {
		call func(s *Store)
		free int
	}{
		"Delete":               {func(s *Store) { s.Delete("a") }, 7},
		"Delete of no bytes":   {func(s *Store) { s.Delete("c") }, 3},
		"Delete of none":       {func(s *Store) { s.Delete("z") }, 3},
		"Delete, not told":     {func(s *Store) { s.Fail([]int{2}); s.Delete("a") }, 7},
		"Delete that is down":  {func(s *Store) { s.Fail([]int{1}); s.Delete("a") }, 3},
		"Put of no bytes":      {func(s *Store) { s.Put("a", nil) }, 7},
		"Put of fewer":         {func(s *Store) { s.Put("a", []byte("x")) }, 6},
		"Put of as many":       {func(s *Store) { s.Put("a", []byte("wxyz")) }, 3},
		"Put of more":          {func(s *Store) { s.Put("a", []byte("vwxyz")) }, 2},
		"Put of all":           {func(s *Store) { s.Put("a", []byte("1234567")) }, 0},
		"Put of too many":      {func(s *Store) { s.Put("a", []byte("12345678")) }, 3},
		"Put, not told":        {func(s *Store) { s.Fail([]int{2}); s.Put("a", []byte("x")) }, 6},
		"Put that is down":     {func(s *Store) { s.Fail([]int{1}); s.Put("a", []byte("x")) }, 3},
		"Put and Delete":       {func(s *Store) { s.Put("a", []byte("xy")); s.Delete("a") }, 7},
		"Put of a wrong name":  {func(s *Store) { s.Put("A", []byte("x")) }, 3},
		"Get":                  {func(s *Store) { s.Get("a") }, 3},
		"List":                 {func(s *Store) { s.List() }, 3},
		"Delete of all":        {func(s *Store) { s.Delete("a"); s.Delete("b"); s.Delete("c") }, 10},
		"Put over and over":    {func(s *Store) { s.Put("a", []byte("x")); s.Put("a", []byte("wxyz")) }, 3},
		"Put of another there": {func(s *Store) { s.Put("c", []byte("xy")) }, 1},
	} {
		s := filled()
		c.call(s)
		is(t, what+" and one more than is free", s.Put("new", make([]byte, c.free+1)), api.ErrFull)
		is(t, what+" and all that is free", s.Put("new", make([]byte, c.free)), api.OK)
		is(t, what+" and one more", s.Put("newer", []byte("x")), api.ErrFull)
	}
}

func TestP701NoBytes(t *testing.T) {
	for _, none := range [][]byte{nil, {}, make([]byte, 0, 5)} {
		s := New(5)
		is(t, "Put of none", s.Put("a", none), api.OK)
		holds(t, s, "a", "")
		lists(t, s, "a")
		is(t, "Put of some over none", s.Put("a", []byte("12345")), api.OK)
		is(t, "Put of none over some", s.Put("a", none), api.OK)
		holds(t, s, "a", "")
		is(t, "Delete", s.Delete("a"), api.OK)
		getFails(t, s, "a", api.ErrNone)
		lists(t, s)
	}
}

func TestP701List(t *testing.T) {
	all := rightNames()
	want := slices.Clone(all)
	sort.Strings(want)
	for turn := range len(all) {
		s := New(100)
		for i := range all {
			is(t, "Put", s.Put(all[(i+turn)%len(all)], []byte{byte(i)}), api.OK)
		}
		lists(t, s, want...)
		for k, name := range want {
			is(t, "Delete", s.Delete(name), api.OK)
			lists(t, s, want[k+1:]...)
		}
	}
}

// downs are numbers at which nothing is done.
func downs() []int {
	return []int{1, 3, 4, 7, 10, 256, 1 << 32, 1<<32 + 2, -1, -2, -3, math.MinInt, math.MaxInt}
}

// calls are all calls that take a number, those of one kind with errors of their own.
func calls(name string, b []byte) map[string]func(s *Store) api.Errno {
	return map[string]func(s *Store) api.Errno{
		"Put":    func(s *Store) api.Errno { return s.Put(name, b) },
		"Delete": func(s *Store) api.Errno { return s.Delete(name) },
		"Get": func(s *Store) api.Errno {
			got, e := s.Get(name)
			if e != api.OK && len(got) != 0 {
				return -1
			}
			return e
		},
		"List": func(s *Store) api.Errno {
			got, e := s.List()
			if e != api.OK && len(got) != 0 {
				return -1
			}
			return e
		},
	}
}

// after answers what filled is behind the calls, if they are done.
func after(what string) *slowStore {
	w := filledSlow()
	switch what {
	case "Put":
		w.put("a", "xy")
	case "Delete":
		w.delete("a")
	}
	return w
}

// TestP701Numbers holds each number at each call: what is told, what is done, and that it is taken, and no more than it.
func TestP701Numbers(t *testing.T) {
	for what, call := range calls("a", []byte("xy")) {
		s := filled()
		s.Fail([]int{0, 1})
		is(t, what+" at 0", call(s), api.OK)
		same(t, "P701: "+what+" at 0", s, after(what))
		listFails(t, s)
		lists(t, s, after(what).names()...)

		s = filled()
		s.Fail([]int{2, 1})
		is(t, what+" at 2", call(s), api.ErrDown)
		same(t, "P701: "+what+" at 2", s, after(what))
		listFails(t, s)
		lists(t, s, after(what).names()...)

		for _, n := range downs() {
			s = filled()
			s.Fail([]int{n})
			is(t, what+" that is down", call(s), api.ErrDown)
			same(t, "P701: "+what+" that is down", s, filledSlow())
			is(t, what+" that is well again", call(s), api.OK)
			same(t, "P701: "+what+" that is well again", s, after(what))
		}
	}
}

// TestP701NumberAheadOfErrors fails if an error of the call's own is told where nothing is done, is not told where it is, or takes no number.
func TestP701NumberAheadOfErrors(t *testing.T) {
	type wrong struct {
		what, name string
		b          []byte
		e          api.Errno
	}
	all := []wrong{
		{"Put", "z", make([]byte, 4), api.ErrFull},
		{"Put", "a", make([]byte, 8), api.ErrFull},
		{"Get", "z", nil, api.ErrNone},
		{"Delete", "z", nil, api.ErrNone},
	}
	for _, name := range wrongNames() {
		all = append(all, wrong{"Put", name, nil, api.ErrName}, wrong{"Put", name, make([]byte, 11), api.ErrName})
		all = append(all, wrong{"Get", name, nil, api.ErrName}, wrong{"Delete", name, nil, api.ErrName})
	}
	for _, c := range all {
		call := calls(c.name, c.b)[c.what]
		for _, n := range []int{0, 2} {
			s := filled()
			s.Fail([]int{n, 1, 0})
			is(t, c.what+" of "+c.name, call(s), c.e)
			listFails(t, s)
			is(t, c.what+" of "+c.name, call(s), c.e)
			same(t, "P701: "+c.what+" of "+c.name, s, filledSlow())
		}
		for _, n := range downs() {
			s := filled()
			s.Fail([]int{n})
			is(t, c.what+" of "+c.name+", down", call(s), api.ErrDown)
			is(t, c.what+" of "+c.name, call(s), c.e)
			same(t, "P701: "+c.what+" of "+c.name, s, filledSlow())
		}
	}
}

// TestP701FailTwice fails if numbers take the place of those that are there, come ahead of them, or are lost.
func TestP701FailTwice(t *testing.T) {
	s := filled()
	s.Fail([]int{1, 0, 2})
	s.Fail([]int{0})
	is(t, "1", s.Put("a", []byte("x")), api.ErrDown)
	holds(t, s, "a", "abcd")
	s.Fail([]int{0, 2, 3})
	s.Fail(nil)
	s.Fail([]int{})
	s.Fail([]int{0})
	is(t, "2", s.Delete("b"), api.ErrDown)
	is(t, "0", s.Delete("b"), api.ErrNone)
	holds(t, s, "a", "abcd")
	is(t, "2", s.Put("b", []byte("y")), api.ErrDown)
	is(t, "3", s.Put("b", []byte("z")), api.ErrDown)
	holds(t, s, "b", "y")
	s.Fail([]int{2})
	getFails(t, s, "b", api.ErrDown)
	for range 3 {
		holds(t, s, "b", "y")
		lists(t, s, "a", "b", "c")
	}
}

func TestP701FailOfNone(t *testing.T) {
	s := filled()
	for _, none := range [][]int{nil, {}, make([]int, 0, 5), []int{1, 1, 1}[1:1]} {
		s.Fail(none)
		lists(t, s, "a", "b", "c")
		is(t, "Put", s.Put("a", []byte("abcd")), api.OK)
		holds(t, s, "a", "abcd")
	}
	s.Fail([]int{1})
	s.Fail(nil)
	listFails(t, s)
	lists(t, s, "a", "b", "c")
}

// TestP701FailTakesNoNumber fails if New or Fail take a number themselves.
func TestP701FailTakesNoNumber(t *testing.T) {
	s := New(5)
	for range 5 {
		s.Fail([]int{1})
	}
	for range 5 {
		listFails(t, s)
	}
	lists(t, s)
}

// TestP701ManyNumbers takes numbers while others come, many of them.
func TestP701ManyNumbers(t *testing.T) {
	s, w := New(50), &slowStore{room: 50}
	for i := range 2000 {
		l := make([]int, i%4)
		for k := range l {
			l[k] = (i*7+k*5)%5 - 1
		}
		s.Fail(l)
		w.fails = append(w.fails, l...)
		name := string(rune('a' + i%3))
		is(t, "Put", s.Put(name, []byte{byte(i)}), w.put(name, string([]byte{byte(i)})))
		if i%3 == 0 {
			is(t, "Delete", s.Delete(name), w.delete(name))
		}
	}
	same(t, "P701", s, w)
	for w.taken < len(w.fails) {
		b, e := s.Get("b")
		if x, f := w.get("b"); string(b) != x || e != f {
			t.Fatalf("P701: Get: %q, %d, want %q, %d", b, e, x, f)
		}
	}
	lists(t, s, w.names()...)
}

func TestP701WrongNames(t *testing.T) {
	s := filled()
	for _, name := range wrongNames() {
		is(t, "Put of "+name, s.Put(name, []byte("x")), api.ErrName)
		is(t, "Put of none of "+name, s.Put(name, nil), api.ErrName)
		is(t, "Put above room of "+name, s.Put(name, make([]byte, 11)), api.ErrName)
		is(t, "Delete of "+name, s.Delete(name), api.ErrName)
		getFails(t, s, name, api.ErrName)
		same(t, "P701", s, filledSlow())
	}
}

func TestP701NotThere(t *testing.T) {
	s := filled()
	for _, name := range []string{"z", "aa", "é", "a.", strings.Repeat("日", 40)} {
		is(t, "Delete of "+name, s.Delete(name), api.ErrNone)
		getFails(t, s, name, api.ErrNone)
		is(t, "Put above room", s.Put(name, make([]byte, 4)), api.ErrFull)
		getFails(t, s, name, api.ErrNone)
		same(t, "P701", s, filledSlow())
	}
}

// player plays one and the same row of calls, of many kinds, on a Store and on the slow one.
type player struct {
	x uint32
	s *Store
	w *slowStore
}

func newPlayer(seed, room int) *player {
	return &player{x: uint32(seed), s: New(room), w: &slowStore{room: room}}
}

func (p *player) pick(n int) int {
	p.x = p.x*1664525 + 1013904223
	return int(p.x>>16) % n
}

func (p *player) name() string {
	all := []string{"a", "a", "b", "b", "ab", "é", "日本", "z", "0"}
	if p.pick(20) == 0 {
		return wrongNames()[p.pick(len(wrongNames()))]
	}
	return all[p.pick(len(all))]
}

func (p *player) bytes() []byte {
	out := make([]byte, p.pick(9))
	for i := range out {
		out[i] = byte(p.pick(256))
	}
	return out
}

func (p *player) numbers() []int {
	out := make([]int, p.pick(6))
	for i := range out {
		out[i] = max(p.pick(9)-3, 0)
		if p.pick(9) == 0 {
			out[i] = downs()[p.pick(len(downs()))]
		}
	}
	return out
}

// told is what a call told, the bytes or names as one text.
type told struct {
	what, text string
	e          api.Errno
}

// step answers what both told.
func (p *player) step() (told, told) {
	name := p.name()
	switch p.pick(10) {
	case 0:
		l := p.numbers()
		p.s.Fail(l)
		p.w.fails = append(p.w.fails, l...)
		return told{what: "Fail"}, told{what: "Fail"}
	case 1, 2:
		b, e := p.s.Get(name)
		c, f := p.w.get(name)
		return told{"Get", string(b), e}, told{"Get", c, f}
	case 3, 4:
		return told{"Delete", "", p.s.Delete(name)}, told{"Delete", "", p.w.delete(name)}
	case 5:
		l, e := p.s.List()
		m, f := p.w.list()
		return told{"List", strings.Join(l, " "), e}, told{"List", strings.Join(m, " "), f}
	}
	b := p.bytes()
	return told{"Put", "", p.s.Put(name, b)}, told{"Put", "", p.w.put(name, string(b))}
}

func TestP701OfMany(t *testing.T) {
	seen := map[string]map[api.Errno]int{}
	for seed := range 300 {
		p := newPlayer(seed, seed%30)
		for range 200 {
			got, want := p.step()
			if got != want {
				t.Fatalf("P701: %v, want %v", got, want)
			}
			same(t, "P701: "+got.what, p.s, p.w)
			if seen[got.what] == nil {
				seen[got.what] = map[api.Errno]int{}
			}
			seen[got.what][got.e]++
		}
	}
	for what, errors := range map[string][]api.Errno{
		"Fail":   {api.OK},
		"Put":    {api.OK, api.ErrDown, api.ErrName, api.ErrFull},
		"Get":    {api.OK, api.ErrDown, api.ErrName, api.ErrNone},
		"Delete": {api.OK, api.ErrDown, api.ErrName, api.ErrNone},
		"List":   {api.OK, api.ErrDown},
	} {
		for _, e := range errors {
			if seen[what][e] == 0 {
				t.Errorf("no %s with error %d was tried", what, e)
			}
		}
	}
}

func TestP702WhatIsHandedInIsCopied(t *testing.T) {
	s := New(100)
	room := []byte("abcdefgh")
	b := room[:3]
	s.Put("a", b)
	b[0] = 'X'
	s.Put("b", room)
	room[1], room[3] = 'Y', 'Z'
	s.Put("c", room[1:1])
	s.Fail([]int{2})
	s.Put("d", b)
	clear(room)
	holds(t, s, "a", "abc")
	holds(t, s, "b", "Xbcdefgh")
	holds(t, s, "c", "")
	holds(t, s, "d", "XYc")

	l := []int{1, 0, 2, 1, 0}
	s.Fail(l[:3])
	clear(l)
	l[1] = 1
	listFails(t, s)
	lists(t, s, "a", "b", "c", "d")
	listFails(t, s)
	lists(t, s, "a", "b", "c", "d")
	// Nor are the numbers of a first Fail of a store the list itself, to whose spare room others would go.
	fresh, row := New(5), []int{1, 7, 7}
	fresh.Fail(row[:1])
	fresh.Fail([]int{0, 2})
	row[0] = 0
	listFails(t, fresh)
	lists(t, fresh)
	listFails(t, fresh)
	if !slices.Equal(row, []int{0, 7, 7}) {
		t.Errorf("P702: Fail wrote to the spare room of what it was handed: %v", row)
	}
}

// TestP702ArgumentsStay fails if a call changes what it is handed, or its spare room.
func TestP702ArgumentsStay(t *testing.T) {
	s := New(100)
	room, l := []byte("abcdefgh"), []int{0, 2, 0, 1, 5}
	for range 3 {
		s.Put("a", room[:3])
		s.Put("b", room[2:2])
		s.Fail(l[:3])
		s.Put("b", room[4:6])
		s.Put("a", []byte("zzzzzz"))
		s.Delete("a")
		s.Fail(l[1:1])
		s.Fail([]int{0, 0, 0, 0})
	}
	if string(room) != "abcdefgh" {
		t.Errorf("P702: Put changed what it was handed: %q", room)
	}
	if !slices.Equal(l, []int{0, 2, 0, 1, 5}) {
		t.Errorf("P702: Fail changed what it was handed: %v", l)
	}
}

func TestP702AnswersAreNewMemory(t *testing.T) {
	s := filled()
	for range 3 {
		first, _ := s.Get("a")
		second, _ := s.Get("a")
		if len(first) != 4 || len(second) != 4 {
			t.Fatalf("P702: Get: %q, %q", first, second)
		}
		clear(first[:cap(first)])
		if string(second) != "abcd" {
			t.Fatalf("P702: two answers share memory: %q", second)
		}
		same(t, "P702", s, filledSlow())

		names, _ := s.List()
		again, _ := s.List()
		clear(names[:cap(names)])
		if !slices.Equal(again, []string{"a", "b", "c"}) {
			t.Fatalf("P702: two answers share memory: %q", again)
		}
		same(t, "P702", s, filledSlow())
	}

	// What was answered stays, whatever the store is told, and what is put behind it stays out of the store.
	was, _ := s.Get("a")
	list, _ := s.List()
	s.Put("a", []byte("XYZ"))
	s.Delete("b")
	s.Put("0", []byte("?"))
	if string(was) != "abcd" || !slices.Equal(list, []string{"a", "b", "c"}) {
		t.Errorf("P702: what was answered is now %q, %q", was, list)
	}
	got, _ := s.Get("a")
	_ = append(got[:1], "!!!!"...)
	holds(t, s, "a", "XYZ")
}

func TestP702TwoStores(t *testing.T) {
	one, two := filled(), filled()
	l := []int{1, 2, 1}
	one.Fail(l)
	one.Put("a", nil)
	one.Put("a", []byte("both"))
	same(t, "P702", two, filledSlow())
	// The numbers that one store was told are not the other one's.
	lists(t, two, "a", "b", "c")
	two.Fail(l)
	two.List()
	listFails(t, one)
	lists(t, one, "a", "b", "c")
	is(t, "Delete of the other store", two.Delete("b"), api.ErrDown)
	listFails(t, two)
	holds(t, one, "b", "123")
	lists(t, two, "a", "c")

	// Nor is its room; and what one store answers is copied by the other one, too.
	is(t, "Put of all that is free in one", one.Put("x", []byte("xyz")), api.OK)
	got, _ := one.Get("a")
	is(t, "Put of what the other one answered", two.Put("copy", got), api.OK)
	clear(got)
	one.Put("a", []byte("????"))
	holds(t, two, "copy", "both")
	holds(t, two, "a", "abcd")
}

// TestP702SameTwice fails if an answer hangs on anything but what the store was told.
func TestP702SameTwice(t *testing.T) {
	for seed := range 20 {
		p, q := newPlayer(seed, 20), newPlayer(seed, 20)
		for range 300 {
			first, _ := p.step()
			if again, _ := q.step(); first != again {
				t.Fatalf("P702: %v, then %v", first, again)
			}
			same(t, "P702", p.s, q.w)
			same(t, "P702", q.s, p.w)
		}
	}
}

// TestP702ManyAtOnce plays stores beside each other: they have nothing in common (go test -race tells more).
func TestP702ManyAtOnce(t *testing.T) {
	b, l := []byte("shared"), []int{0, 2, 1}
	left := make([]string, 16)
	var all sync.WaitGroup
	for i := range left {
		all.Go(func() {
			s := New(1000)
			for k := range 99 {
				s.Fail(l)
				s.Put("a", b[:k%7])
				s.Put("b", b)
				s.Delete("b")
			}
			x, _ := s.Get("a")
			y, _ := s.Get("b")
			left[i] = string(x) + " " + string(y)
		})
	}
	all.Wait()
	for i, got := range left {
		if got != " shared" {
			t.Errorf("P702: store %d: %q", i, got)
		}
	}
}
