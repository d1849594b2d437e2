package disk

import (
	"bytes"
	"math"
	"slices"
	"sort"
	"strings"
	"sync"
	"testing"

	"cooperage/api"
)

// slowByte is one byte of a slowFile, which knows by itself whether it is loose.
type slowByte struct {
	value byte
	loose bool
}

type slowFile struct {
	name  string
	bytes []slowByte
}

// slowDisk says the chapter's sentences by a plain list of files, byte by byte, with nothing counted ahead.
type slowDisk struct {
	room  int
	files []slowFile
}

// wrongNames are none of names.Valid, for one reason each.
func wrongNames() []string {
	return []string{"", "A", "-a", ".a", "_a", "a b", "a/b", "a\x00", "\xff", "a\xc3", "\u00ad", "😀", strings.Repeat("a", 41)}
}

// rightNames are at the edges of names.Valid; the byte order of some is not the one of their lengths.
func rightNames() []string {
	return []string{"a", "b", "ab", "a-", "a.b", "0", "9_", "é", "日本", "\uffff", "z", strings.Repeat("日", 40), strings.Repeat("a", 40)}
}

func slowRight(name string) bool {
	return !slices.Contains(wrongNames(), name)
}

func (s *slowDisk) at(name string) int {
	return slices.IndexFunc(s.files, func(f slowFile) bool { return f.name == name })
}

func (s *slowDisk) why(name string) api.Errno {
	switch {
	case !slowRight(name):
		return api.ErrName
	case s.at(name) < 0:
		return api.ErrNone
	}
	return api.OK
}

func (s *slowDisk) used() int {
	n := 0
	for _, f := range s.files {
		n += len(f.bytes)
	}
	return n
}

func (s *slowDisk) list() []string {
	out := []string{}
	for _, f := range s.files {
		out = append(out, f.name)
	}
	sort.Strings(out)
	return out
}

func (s *slowDisk) read(name string) string {
	out := []byte{}
	for _, b := range s.files[s.at(name)].bytes {
		out = append(out, b.value)
	}
	return string(out)
}

func (s *slowDisk) loose(name string) int {
	n := 0
	if at := s.at(name); at >= 0 {
		for _, b := range s.files[at].bytes {
			if b.loose {
				n++
			}
		}
	}
	return n
}

func (s *slowDisk) append(name, b string) api.Errno {
	if !slowRight(name) {
		return api.ErrName
	}
	if s.used()+len(b) > s.room {
		return api.ErrFull
	}
	if s.at(name) < 0 {
		s.files = append(s.files, slowFile{name: name})
	}
	f := &s.files[s.at(name)]
	for _, c := range []byte(b) {
		f.bytes = append(f.bytes, slowByte{c, true})
	}
	return api.OK
}

func (s *slowDisk) cut(name string, n int) api.Errno {
	if e := s.why(name); e != api.OK {
		return e
	}
	f := &s.files[s.at(name)]
	left := []slowByte{}
	for i, b := range f.bytes {
		if i < n {
			left = append(left, slowByte{b.value, false})
		}
	}
	f.bytes = left
	return api.OK
}

func (s *slowDisk) sync(name string) api.Errno { return s.cut(name, math.MaxInt) }

func (s *slowDisk) remove(name string) api.Errno {
	if e := s.why(name); e != api.OK {
		return e
	}
	at := s.at(name)
	s.files = slices.Delete(s.files, at, at+1)
	return api.OK
}

func (s *slowDisk) rename(a, b string) api.Errno {
	if !slowRight(a) || !slowRight(b) {
		return api.ErrName
	}
	if s.at(a) < 0 {
		return api.ErrNone
	}
	if a != b {
		s.remove(b)
		s.files[s.at(a)].name = b
	}
	return api.OK
}

func (s *slowDisk) crash(keep []int) {
	turn := 0
	for _, name := range s.list() {
		if s.loose(name) == 0 {
			continue
		}
		stay := 0
		if turn < len(keep) {
			stay = keep[turn]
		}
		turn++
		f := &s.files[s.at(name)]
		left := []slowByte{}
		for _, b := range f.bytes {
			if b.loose {
				stay--
			}
			if !b.loose || stay >= 0 {
				left = append(left, slowByte{b.value, false})
			}
		}
		f.bytes = left
	}
}

// same fails if d does not tell all that s tells.
func same(t *testing.T, promise string, d *Disk, s *slowDisk) {
	t.Helper()
	if got, want := d.List(), s.list(); !slices.Equal(got, want) {
		t.Fatalf("%s: List: %q, want %q", promise, got, want)
	}
	if got, want := d.Used(), s.used(); got != want {
		t.Fatalf("%s: Used: %d, want %d", promise, got, want)
	}
	for _, name := range s.list() {
		if b, e := d.Read(name); string(b) != s.read(name) || e != api.OK {
			t.Fatalf("%s: Read %q: %q, %d, want %q", promise, name, b, e, s.read(name))
		}
		if got, want := d.Loose(name), s.loose(name); got != want {
			t.Fatalf("%s: Loose %q: %d, want %d", promise, name, got, want)
		}
	}
}

// is fails if a call's error is not the wanted one.
func is(t *testing.T, what string, got, want api.Errno) {
	t.Helper()
	if got != want {
		t.Fatalf("P601: %s: %d, want %d", what, got, want)
	}
}

// holds fails if the file is not of these bytes, so many of them loose.
func holds(t *testing.T, d *Disk, name, want string, loose int) {
	t.Helper()
	if b, e := d.Read(name); string(b) != want || e != api.OK {
		t.Fatalf("P601: Read %q: %q, %d, want %q", name, b, e, want)
	}
	if got := d.Loose(name); got != loose {
		t.Fatalf("P601: Loose %q: %d, want %d", name, got, loose)
	}
}

// isGone fails if there is a file of that name.
func isGone(t *testing.T, d *Disk, name string) {
	t.Helper()
	if b, e := d.Read(name); len(b) != 0 || e != api.ErrNone {
		t.Fatalf("P601: Read %q, which is gone: %q, %d", name, b, e)
	}
	if got := d.Loose(name); got != 0 {
		t.Fatalf("P601: Loose %q, which is gone: %d", name, got)
	}
	if slices.Contains(d.List(), name) {
		t.Fatalf("P601: List with %q, which is gone: %q", name, d.List())
	}
}

// hasUsed fails if the files do not have so many bytes in all.
func hasUsed(t *testing.T, d *Disk, want int) {
	t.Helper()
	if got := d.Used(); got != want {
		t.Fatalf("P601: Used: %d, want %d", got, want)
	}
}

// filled answers a disk of room 20 with "ab" and loose "cd" in a, loose "123" in b, "yz" in c and no bytes in d.
func filled() *Disk {
	d := New(20)
	d.Append("c", []byte("yz"))
	d.Append("a", []byte("ab"))
	d.Sync("a")
	d.Sync("c")
	d.Append("b", []byte("123"))
	d.Append("d", nil)
	d.Append("a", []byte("cd"))
	return d
}

// filledSlow is what filled answers, for same.
func filledSlow() *slowDisk {
	s := &slowDisk{room: 20}
	s.append("c", "yz")
	s.append("a", "ab")
	s.sync("a")
	s.sync("c")
	s.append("b", "123")
	s.append("d", "")
	s.append("a", "cd")
	return s
}

func TestP601Empty(t *testing.T) {
	for _, d := range []*Disk{New(0), New(5), New(-1), New(math.MinInt), New(math.MaxInt), {}} {
		if got := d.List(); len(got) != 0 {
			t.Errorf("P601: List of a new disk: %q", got)
		}
		hasUsed(t, d, 0)
		isGone(t, d, "a")
		d.Crash([]int{1, 2, 3})
		if got := d.List(); len(got) != 0 {
			t.Errorf("P601: List of a new disk that crashed: %q", got)
		}
		hasUsed(t, d, 0)
	}
}

func TestP601InTurns(t *testing.T) {
	d := New(100)
	is(t, "Append", d.Append("b", []byte("12")), api.OK)
	is(t, "Append", d.Append("a", []byte("x")), api.OK)
	is(t, "Append", d.Append("b", []byte("345")), api.OK)
	holds(t, d, "b", "12345", 5)
	holds(t, d, "a", "x", 1)
	is(t, "Sync", d.Sync("b"), api.OK)
	holds(t, d, "b", "12345", 0)
	holds(t, d, "a", "x", 1)
	is(t, "Sync again", d.Sync("b"), api.OK)
	is(t, "Append", d.Append("a", []byte("y")), api.OK)
	is(t, "Append", d.Append("b", []byte("\x00\xff")), api.OK)
	holds(t, d, "b", "12345\x00\xff", 2)
	holds(t, d, "a", "xy", 2)
	is(t, "Append of none", d.Append("b", []byte{}), api.OK)
	holds(t, d, "b", "12345\x00\xff", 2)
	hasUsed(t, d, 9)
	is(t, "Remove", d.Remove("a"), api.OK)
	isGone(t, d, "a")
	hasUsed(t, d, 7)
	is(t, "Append once more", d.Append("a", []byte("new")), api.OK)
	holds(t, d, "a", "new", 3)
	hasUsed(t, d, 10)
}

func TestP601Room(t *testing.T) {
	for _, room := range []int{0, -1, -5, math.MinInt} {
		d := New(room)
		is(t, "Append of a byte to no room", d.Append("a", []byte("x")), api.ErrFull)
		isGone(t, d, "a")
		is(t, "Append of none to no room", d.Append("a", nil), api.OK)
		holds(t, d, "a", "", 0)
		is(t, "Append of a byte to no room", d.Append("a", []byte("x")), api.ErrFull)
		holds(t, d, "a", "", 0)
		hasUsed(t, d, 0)
	}
	for _, room := range []int{1, 2, 10, 1000} {
		d, b := New(room), bytes.Repeat([]byte("x"), room+1)
		is(t, "Append of one more than room", d.Append("a", b), api.ErrFull)
		isGone(t, d, "a")
		is(t, "Append of all room", d.Append("a", b[1:]), api.OK)
		is(t, "Append of one more", d.Append("a", b[:1]), api.ErrFull)
		is(t, "Append of one more", d.Append("b", b[:1]), api.ErrFull)
		isGone(t, d, "b")
		is(t, "Append of none more", d.Append("b", nil), api.OK)
		holds(t, d, "a", string(b[1:]), room)
		hasUsed(t, d, room)
	}
	d := New(math.MaxInt)
	is(t, "Append to the greatest room", d.Append("a", []byte("abc")), api.OK)
	is(t, "Append to the greatest room", d.Append("a", []byte("def")), api.OK)
	holds(t, d, "a", "abcdef", 6)
}

// TestP601RoomComesBack fails if what is gone by any call is not free for other bytes, or more than that is.
func TestP601RoomComesBack(t *testing.T) {
	for what, c := range map[string]struct {
		call func(d *Disk)
		free int
	}{
		"Cut":         {func(d *Disk) { d.Cut("a", 1) }, 3},
		"Cut at 0":    {func(d *Disk) { d.Cut("a", -9) }, 4},
		"Cut of all":  {func(d *Disk) { d.Cut("a", 9) }, 0},
		"Remove":      {func(d *Disk) { d.Remove("a") }, 4},
		"Rename":      {func(d *Disk) { d.Rename("a", "z") }, 0},
		"Rename self": {func(d *Disk) { d.Rename("a", "a") }, 0},
		"Rename over": {func(d *Disk) { d.Rename("a", "b") }, 3},
		"Rename none": {func(d *Disk) { d.Rename("z", "b") }, 0},
		"Sync":        {func(d *Disk) { d.Sync("a") }, 0},
		"Crash":       {func(d *Disk) { d.Crash(nil) }, 5},
		"Crash of 1":  {func(d *Disk) { d.Crash([]int{1, 1}) }, 3},
	} {
		d := New(9)
		d.Append("a", []byte("ab"))
		d.Sync("a")
		d.Append("a", []byte("cd"))
		d.Append("b", []byte("123"))
		d.Append("c", []byte("yz"))
		d.Sync("c")
		c.call(d)
		hasUsed(t, d, 9-c.free)
		is(t, what+" and one byte too much", d.Append("new", make([]byte, c.free+1)), api.ErrFull)
		is(t, what+" and all that is free", d.Append("new", make([]byte, c.free)), api.OK)
		hasUsed(t, d, 9)
	}
}

func TestP601AppendOfNone(t *testing.T) {
	for _, none := range [][]byte{nil, {}, make([]byte, 0, 5)} {
		d := New(5)
		is(t, "Append of none", d.Append("a", none), api.OK)
		holds(t, d, "a", "", 0)
		if got := d.List(); !slices.Equal(got, []string{"a"}) {
			t.Errorf("P601: List: %q", got)
		}
		for what, e := range map[string]api.Errno{"Sync": d.Sync("a"), "Cut": d.Cut("a", 3), "Rename": d.Rename("a", "b")} {
			is(t, what+" of a file of no bytes", e, api.OK)
		}
		holds(t, d, "b", "", 0)
		is(t, "Remove", d.Remove("b"), api.OK)
		isGone(t, d, "b")
	}
}

func TestP601Cut(t *testing.T) {
	for _, c := range []struct {
		n    int
		want string
	}{{math.MinInt, ""}, {-1, ""}, {0, ""}, {1, "a"}, {2, "ab"}, {3, "abc"}, {4, "abcd"}, {5, "abcd"}, {math.MaxInt, "abcd"}} {
		d := filled()
		is(t, "Cut", d.Cut("a", c.n), api.OK)
		holds(t, d, "a", c.want, 0)
		holds(t, d, "b", "123", 3)
		hasUsed(t, d, 5+len(c.want))
		is(t, "Append behind what was cut", d.Append("a", []byte("XY")), api.OK)
		holds(t, d, "a", c.want+"XY", 2)
		d.Crash(nil)
		holds(t, d, "a", c.want, 0)
	}
}

func TestP601Rename(t *testing.T) {
	d := filled()
	is(t, "Rename", d.Rename("a", "z"), api.OK)
	isGone(t, d, "a")
	holds(t, d, "z", "abcd", 2)
	hasUsed(t, d, 9)
	if got := d.List(); !slices.Equal(got, []string{"b", "c", "d", "z"}) {
		t.Errorf("P601: List: %q", got)
	}
	// Of the file that was under b nothing is left, how much of it was loose neither.
	is(t, "Rename over b", d.Rename("z", "b"), api.OK)
	isGone(t, d, "z")
	holds(t, d, "b", "abcd", 2)
	hasUsed(t, d, 6)
	is(t, "Rename of synced over loose", d.Rename("c", "b"), api.OK)
	holds(t, d, "b", "yz", 0)
	hasUsed(t, d, 2)
	is(t, "Append behind", d.Append("b", []byte("!")), api.OK)
	holds(t, d, "b", "yz!", 1)
	is(t, "Append of a new one", d.Append("c", []byte("?")), api.OK)
	holds(t, d, "c", "?", 1)
	holds(t, d, "b", "yz!", 1)
	is(t, "Rename of no bytes over some", d.Rename("d", "b"), api.OK)
	holds(t, d, "b", "", 0)
	hasUsed(t, d, 1)
}

func TestP601RenameToItself(t *testing.T) {
	for _, name := range []string{"a", "b", "c", "d"} {
		d := filled()
		is(t, "Rename to itself", d.Rename(name, name), api.OK)
		same(t, "P601", d, filledSlow())
		// The same text at another place is the same name.
		is(t, "Rename to itself", d.Rename(name, strings.Clone(name)), api.OK)
		same(t, "P601", d, filledSlow())
	}
	d := filled()
	is(t, "Rename of none to itself", d.Rename("z", "z"), api.ErrNone)
	is(t, "Rename of a wrong name to itself", d.Rename("Z", "Z"), api.ErrName)
	same(t, "P601", d, filledSlow())
}

// TestP601StandAtOnce fails if a crash takes back a Rename or a Remove.
func TestP601StandAtOnce(t *testing.T) {
	d := filled()
	d.Rename("a", "c")
	d.Remove("b")
	d.Crash(nil)
	if got := d.List(); !slices.Equal(got, []string{"c", "d"}) {
		t.Errorf("P601: List: %q", got)
	}
	holds(t, d, "c", "ab", 0)
	isGone(t, d, "a")
	isGone(t, d, "b")
}

func TestP601List(t *testing.T) {
	all := rightNames()
	want := slices.Clone(all)
	sort.Strings(want)
	for turn := range len(all) {
		d := New(100)
		for i := range all {
			is(t, "Append", d.Append(all[(i+turn)%len(all)], []byte{byte(i)}), api.OK)
		}
		if got := d.List(); !slices.Equal(got, want) {
			t.Fatalf("P601: List: %q, want %q", got, want)
		}
		hasUsed(t, d, len(all))
		for k, name := range want {
			is(t, "Remove", d.Remove(name), api.OK)
			if got := d.List(); !slices.Equal(got, want[k+1:]) {
				t.Fatalf("P601: List: %q, want %q", got, want[k+1:])
			}
		}
		hasUsed(t, d, 0)
	}
}

// wrong are all calls on a file of that name, those that change something.
func wrong(d *Disk, name string) map[string]api.Errno {
	return map[string]api.Errno{
		"Sync":        d.Sync(name),
		"Cut":         d.Cut(name, 1),
		"Cut below 0": d.Cut(name, -1),
		"Rename":      d.Rename(name, "a"),
		"Rename new":  d.Rename(name, "new"),
		"Remove":      d.Remove(name),
	}
}

func TestP601WrongNames(t *testing.T) {
	d := filled()
	for _, name := range wrongNames() {
		calls := wrong(d, name)
		calls["Append"] = d.Append(name, []byte("x"))
		calls["Append of none"] = d.Append(name, nil)
		calls["Append above room"] = d.Append(name, make([]byte, 21))
		calls["Rename to it"] = d.Rename("a", name)
		calls["Rename of none to it"] = d.Rename("z", name)
		calls["Rename to itself"] = d.Rename(name, name)
		calls["Rename of it to a wrong one"] = d.Rename(name, "B")
		for what, e := range calls {
			is(t, what+" of "+name, e, api.ErrName)
		}
		if b, e := d.Read(name); len(b) != 0 || e != api.ErrName {
			t.Fatalf("P601: Read %q: %q, %d", name, b, e)
		}
		if got := d.Loose(name); got != 0 {
			t.Fatalf("P601: Loose %q: %d", name, got)
		}
		same(t, "P601", d, filledSlow())
	}
}

func TestP601NotThere(t *testing.T) {
	d := filled()
	for _, name := range []string{"z", "aa", "é", "a.", strings.Repeat("日", 40)} {
		for what, e := range wrong(d, name) {
			is(t, what+" of "+name, e, api.ErrNone)
		}
		is(t, "Append above room", d.Append(name, make([]byte, 12)), api.ErrFull)
		isGone(t, d, name)
		same(t, "P601", d, filledSlow())
	}
	for _, name := range []string{"a", "b", "c", "d"} {
		is(t, "Append above room", d.Append(name, make([]byte, 12)), api.ErrFull)
		same(t, "P601", d, filledSlow())
	}
	is(t, "Append of all room", d.Append("z", make([]byte, 11)), api.OK)
}

func TestP602Example(t *testing.T) {
	d := New(9)
	d.Append("a", []byte("abc"))
	d.Crash([]int{1})
	if b, e := d.Read("a"); string(b) != "a" || e != api.OK || d.Loose("a") != 0 || d.Used() != 1 {
		t.Errorf("P602: %q, %d, %d loose, %d used", b, e, d.Loose("a"), d.Used())
	}
}

func TestP602Keep(t *testing.T) {
	for _, c := range []struct {
		keep []int
		a, b string
	}{
		{nil, "ab", ""},
		{[]int{}, "ab", ""},
		{[]int{0}, "ab", ""},
		{[]int{1}, "abc", ""},
		{[]int{2}, "abcd", ""},
		{[]int{3}, "abcd", ""},
		{[]int{0, 1}, "ab", "1"},
		{[]int{0, 3}, "ab", "123"},
		{[]int{0, 4}, "ab", "123"},
		{[]int{1, 2}, "abc", "12"},
		// c and d have no loose bytes, and take no number; nor do those that are left over do anything.
		{[]int{1, 2, 3, 4, 5}, "abc", "12"},
		{[]int{-1}, "ab", ""},
		{[]int{-1, 1}, "ab", "1"},
		{[]int{1, -1}, "abc", ""},
		{[]int{-3, -2}, "ab", ""},
		{[]int{math.MinInt, math.MinInt}, "ab", ""},
		{[]int{math.MaxInt, math.MaxInt}, "abcd", "123"},
	} {
		d := filled()
		d.Crash(c.keep)
		want := &slowDisk{room: 20}
		for name, b := range map[string]string{"a": c.a, "b": c.b, "c": "yz", "d": ""} {
			want.append(name, b)
			want.sync(name)
		}
		same(t, "P602", d, want)
		// Nothing is loose, so that one more crash takes nothing.
		d.Crash([]int{0, 0, 0})
		same(t, "P602", d, want)
	}
}

// TestP602ByRisingNames fails if the numbers go by the order in which the files were made or written, or by anything but bytes.
func TestP602ByRisingNames(t *testing.T) {
	all := rightNames()
	rising := slices.Clone(all)
	sort.Strings(rising)
	keep := make([]int, len(all))
	for i := range keep {
		keep[i] = i
	}
	for turn := range len(all) {
		d := New(1000)
		for i := range all {
			d.Append(all[(i+turn)%len(all)], make([]byte, 20))
		}
		d.Crash(keep)
		for i, name := range rising {
			if b, e := d.Read(name); len(b) != i || e != api.OK {
				t.Fatalf("P602: %q: %d bytes, %d, want %d", name, len(b), e, i)
			}
		}
	}
}

// TestP602SyncedTakesNoNumber crashes with each set of the files synced.
func TestP602SyncedTakesNoNumber(t *testing.T) {
	all := []string{"a", "b", "c", "d", "e"}
	for set := range 1 << len(all) {
		d, s := New(100), &slowDisk{room: 100}
		for i, name := range all {
			b := strings.Repeat(name, 6)
			d.Append(name, []byte(b))
			s.append(name, b)
			if set&(1<<i) != 0 {
				d.Sync(name)
				s.sync(name)
			}
		}
		d.Crash([]int{1, 2, 3, 4})
		s.crash([]int{1, 2, 3, 4})
		same(t, "P602", d, s)
	}
}

// TestP602AfterRename fails if a file's turn goes by a name that it had.
func TestP602AfterRename(t *testing.T) {
	d := New(100)
	d.Append("a", []byte("aaaa"))
	d.Append("b", []byte("bbbb"))
	d.Rename("a", "c")
	d.Crash([]int{1, 3})
	holds(t, d, "b", "b", 0)
	holds(t, d, "c", "aaa", 0)
}

// player plays one and the same row of calls, of many kinds, on a Disk and on the slow one.
type player struct {
	x uint32
	d *Disk
	s *slowDisk
}

func (p *player) pick(n int) int {
	p.x = p.x*1664525 + 1013904223
	return int(p.x>>16) % n
}

func (p *player) name() string {
	all := []string{"a", "a", "b", "b", "ab", "é", "日本", "z", "0"}
	if p.pick(30) == 0 {
		return wrongNames()[p.pick(len(wrongNames()))]
	}
	return all[p.pick(len(all))]
}

func (p *player) bytes() []byte {
	out := make([]byte, p.pick(7))
	for i := range out {
		out[i] = byte(p.pick(256))
	}
	return out
}

func (p *player) numbers() []int {
	out := make([]int, p.pick(5))
	for i := range out {
		out[i] = p.pick(9) - 2
	}
	return out
}

// step answers what was called, and the errors of both.
func (p *player) step() (string, api.Errno, api.Errno) {
	name := p.name()
	switch p.pick(12) {
	case 0:
		return "Sync", p.d.Sync(name), p.s.sync(name)
	case 1:
		n := p.pick(12) - 2
		return "Cut", p.d.Cut(name, n), p.s.cut(name, n)
	case 2, 3:
		to := p.name()
		return "Rename", p.d.Rename(name, to), p.s.rename(name, to)
	case 4:
		return "Remove", p.d.Remove(name), p.s.remove(name)
	case 5:
		keep := p.numbers()
		p.d.Crash(keep)
		p.s.crash(keep)
		return "Crash", api.OK, api.OK
	}
	b := p.bytes()
	return "Append", p.d.Append(name, b), p.s.append(name, string(b))
}

func TestP601P602OfMany(t *testing.T) {
	seen := map[string]map[api.Errno]int{}
	for seed := range 300 {
		p := &player{x: uint32(seed), d: New(seed % 40), s: &slowDisk{room: seed % 40}}
		for range 200 {
			what, got, want := p.step()
			if got != want {
				t.Fatalf("P601: %s: %d, want %d", what, got, want)
			}
			same(t, "P601, P602: "+what, p.d, p.s)
			if seen[what] == nil {
				seen[what] = map[api.Errno]int{}
			}
			seen[what][got]++
		}
	}
	for what, errors := range map[string][]api.Errno{
		"Append": {api.OK, api.ErrName, api.ErrFull},
		"Sync":   {api.OK, api.ErrName, api.ErrNone},
		"Cut":    {api.OK, api.ErrName, api.ErrNone},
		"Rename": {api.OK, api.ErrName, api.ErrNone},
		"Remove": {api.OK, api.ErrName, api.ErrNone},
		"Crash":  {api.OK},
	} {
		for _, e := range errors {
			if seen[what][e] == 0 {
				t.Errorf("no %s with error %d was tried", what, e)
			}
		}
	}
}

func TestP603WhatIsHandedInIsCopied(t *testing.T) {
	d := New(100)
	room := []byte("abcdefgh")
	b := room[:3]
	d.Append("a", b)
	b[0] = 'X'
	d.Append("a", b[:2])
	room[1], room[3] = 'Y', 'Z'
	holds(t, d, "a", "abcXb", 5)
	d.Append("b", room)
	clear(room)
	holds(t, d, "b", "XYcZefgh", 8)
	d.Append("a", []byte("more"))
	if string(room) != string(make([]byte, 8)) {
		t.Errorf("P603: what was handed in is now %q", room)
	}
}

// TestP603ArgumentsStay fails if a call changes what it is handed, or its spare room.
func TestP603ArgumentsStay(t *testing.T) {
	d := New(100)
	room := []byte("abcdefgh")
	for range 3 {
		d.Append("a", room[:3])
		d.Append("b", room[2:2])
		d.Append("b", room[4:6])
	}
	d.Cut("a", 1)
	d.Append("a", []byte("zzzzzzz"))
	keep := []int{5, -1, 7, 9}
	d.Crash(keep[:3])
	d.Append("a", []byte("zzzzzzz"))
	if string(room) != "abcdefgh" {
		t.Errorf("P603: Append changed what it was handed: %q", room)
	}
	if !slices.Equal(keep, []int{5, -1, 7, 9}) {
		t.Errorf("P603: Crash changed what it was handed: %v", keep)
	}
}

// TestP603KeepIsNotKept fails if numbers that are left over, or changed behind the call, are taken by a later crash.
func TestP603KeepIsNotKept(t *testing.T) {
	d := New(100)
	keep := []int{1, 1, 1}
	d.Append("a", []byte("abc"))
	d.Crash(keep)
	keep[1] = 3
	d.Append("a", []byte("def"))
	d.Crash(nil)
	holds(t, d, "a", "a", 0)
}

func TestP603AnswersAreNewMemory(t *testing.T) {
	d := filled()
	for range 3 {
		first, _ := d.Read("a")
		second, _ := d.Read("a")
		if len(first) != 4 || len(second) != 4 {
			t.Fatalf("P603: Read: %q, %q", first, second)
		}
		clear(first[:cap(first)])
		if string(second) != "abcd" {
			t.Fatalf("P603: two answers share memory: %q", second)
		}
		same(t, "P603", d, filledSlow())

		names, again := d.List(), d.List()
		clear(names[:cap(names)])
		if !slices.Equal(again, []string{"a", "b", "c", "d"}) {
			t.Fatalf("P603: two answers share memory: %q", again)
		}
		same(t, "P603", d, filledSlow())
	}

	// What was read stays, whatever the disk is told, and what is put behind it stays out of the disk.
	was, _ := d.Read("a")
	list := d.List()
	d.Cut("a", 1)
	d.Append("a", []byte("XYZ"))
	d.Remove("b")
	d.Rename("c", "0")
	if string(was) != "abcd" || !slices.Equal(list, []string{"a", "b", "c", "d"}) {
		t.Errorf("P603: what was answered is now %q, %q", was, list)
	}
	d.Sync("a")
	got, _ := d.Read("a")
	_ = append(got[:2], "!!!!"...)
	holds(t, d, "a", "aXYZ", 0)
}

// TestP603CutBytesStayGone fails if bytes that were cut or lost come again, with a later Append.
func TestP603CutBytesStayGone(t *testing.T) {
	d := New(100)
	d.Append("a", []byte("secret"))
	d.Cut("a", 1)
	d.Append("a", []byte("x"))
	d.Cut("a", 6)
	holds(t, d, "a", "sx", 0)
	d.Append("a", []byte("lost"))
	d.Crash([]int{1})
	d.Append("a", nil)
	d.Sync("a")
	holds(t, d, "a", "sxl", 0)
}

func TestP603TwoDisks(t *testing.T) {
	one, two := filled(), filled()
	b := []byte("both")
	one.Append("a", b)
	one.Append("new", b)
	one.Sync("b")
	one.Rename("c", "x")
	one.Remove("d")
	same(t, "P603", two, filledSlow())
	one.Crash([]int{1, 1, 1})
	same(t, "P603", two, filledSlow())

	// What one disk answers is copied by the other one, too.
	got, _ := one.Read("a")
	two.Append("copy", got)
	one.Cut("a", 0)
	one.Append("a", []byte("?????"))
	holds(t, two, "copy", "abc", 3)
}

// TestP603SameTwice fails if an answer hangs on anything but what the disk was told.
func TestP603SameTwice(t *testing.T) {
	for seed := range 20 {
		p := &player{x: uint32(seed), d: New(30), s: &slowDisk{room: 30}}
		q := &player{x: uint32(seed), d: New(30), s: &slowDisk{room: 30}}
		for range 300 {
			what, e, _ := p.step()
			if again, f, _ := q.step(); what != again || e != f {
				t.Fatalf("P603: %s: %d, then %s: %d", what, e, again, f)
			}
			// Asking changes nothing.
			p.d.List()
			p.d.Read("a")
			p.d.Loose("a")
			p.d.Used()
			same(t, "P603", p.d, q.s)
			same(t, "P603", q.d, p.s)
		}
	}
}

// TestP603ManyAtOnce plays disks beside each other: they have nothing in common (go test -race tells more).
func TestP603ManyAtOnce(t *testing.T) {
	b, keep := []byte("shared"), []int{2, 1}
	left := make([]string, 16)
	var all sync.WaitGroup
	for i := range left {
		all.Go(func() {
			d := New(1000)
			for range 100 {
				d.Append("a", b)
				d.Append("b", b)
				d.Crash(keep)
			}
			x, _ := d.Read("a")
			y, _ := d.Read("b")
			left[i] = string(x) + " " + string(y)
		})
	}
	all.Wait()
	want := strings.Repeat("sh", 100) + " " + strings.Repeat("s", 100)
	for i, got := range left {
		if got != want {
			t.Errorf("P603: disk %d: %q", i, got)
		}
	}
}
