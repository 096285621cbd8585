package vfs_test

import (
	"bytes"
	"maps"
	"math"
	"slices"
	"strings"
	"testing"
	"unsafe"

	"broadsheet/api"
	"broadsheet/vfs"
)

// ok wants a call to have no error.
func ok(t *testing.T, e api.Errno) {
	t.Helper()
	if e != api.OK {
		t.Errorf("%v", e)
	}
}

// is wants a call to have that error.
func is(t *testing.T, got, want api.Errno) {
	t.Helper()
	if got != want {
		t.Errorf("%v, not %v", got, want)
	}
}

// holds wants these files on a disk, and no others in their directories, "",
// g and h: paths and bodies by turns.
func holds(t *testing.T, d *vfs.Disk, pairs ...string) {
	t.Helper()
	want := map[string]string{}
	dirs := map[string]int{"": 0, "g": 0, "h": 0}
	for i := 0; i < len(pairs); i += 2 {
		want[pairs[i]] = pairs[i+1]
		dirs[dirOf(pairs[i])] = 0
	}
	if got := files(t, d, slices.Sorted(maps.Keys(dirs))...); !maps.Equal(got, want) {
		t.Errorf("%q, not %q", got, want)
	}
}

// write what isn't kept; kept writes what is.
func write(t *testing.T, d *vfs.Disk, path, body string) {
	t.Helper()
	ok(t, d.Write(path, []byte(body)))
}

func kept(t *testing.T, d *vfs.Disk, path, body string) {
	t.Helper()
	write(t, d, path, body)
	ok(t, d.Sync(path))
	ok(t, d.SyncDir(dirOf(path)))
}

// calls are those that change or sync something, by their names.
var calls = []struct {
	name string
	do   func(d *vfs.Disk, path string) api.Errno
}{
	{"Write", func(d *vfs.Disk, path string) api.Errno { return d.Write(path, []byte("w")) }},
	{"Append", func(d *vfs.Disk, path string) api.Errno { return d.Append(path, []byte("w")) }},
	{"Rename", func(d *vfs.Disk, path string) api.Errno { return d.Rename(path, dirOf(path+"/")+"/new") }},
	{"Remove", func(d *vfs.Disk, path string) api.Errno { return d.Remove(path) }},
	{"Sync", func(d *vfs.Disk, path string) api.Errno { return d.Sync(path) }},
	{"SyncDir", func(d *vfs.Disk, path string) api.Errno { return d.SyncDir(dirOf(path)) }},
}

func TestExamples(t *testing.T) { // P6.3
	d := vfs.New(100)
	write(t, d, "a", "aa")
	ok(t, d.Sync("a"))
	d.Crash()
	holds(t, d)
	write(t, d, "a", "xy")
	ok(t, d.SyncDir(""))
	d.Crash(1)
	holds(t, d, "a", "x")
}

func TestRightPaths(t *testing.T) { // P6.1
	long := strings.Repeat("x", 80)
	for _, path := range []string{
		"a", "Z", "0", "9", "-", "_", "...", "....", ".a", "a.", "..a", "a..", ".-", "-.", "._", "a.b",
		"current.new", "index.html", "g1", "a/b", "a/a", "g12/manifest", "j/log", ".../...", "-/_", "0/0", ".a/.b", "..a/b..",
		"azAZ09-_.", long, long + "/a", "a/" + long, long + "/" + long, strings.Repeat(".", 80), strings.Repeat(".", 3) + "/" + strings.Repeat("-", 80),
	} {
		if !vfs.Right(path) {
			t.Errorf("%q isn't right", path)
		}
	}
	for _, path := range []string{
		"", ".", "..", "/", "//", "a/", "/a", "a//b", "a/b/", "/a/b", "a/b/c", "a/b//", "./a", "../a", "a/.", "a/..", "./.", "../..", "/.", "./", "a/./b",
		"a b", " a", "a ", "a\n", "\na", "a\x00", "\x00", "a\\b", "a:b", "a,b", "a+b", "a~", "a%20", "a*", "a?", "#", "@", "a/b c", "a/b\n", "a\tb",
		"ä", "a/é", "\xff", "a\xc3", "\u212a", "\uff41", "\uff0e", "\u0661", "a\u2215b", "a\u200b", "\u00ad",
		long + "x", long + "x/a", "a/" + long + "x", strings.Repeat("x", 81) + "/" + long, strings.Repeat("x", 100000), strings.Repeat(".", 81), strings.Repeat("a/", 40) + "a",
	} {
		if vfs.Right(path) {
			t.Errorf("%q is right", path)
		}
	}
}

// TestEveryByte has each byte alone, and at the ends and within a part.
func TestEveryByte(t *testing.T) { // P6.1
	for c := range 0x100 {
		s := string([]byte{byte(c)})
		for _, path := range []string{s, "a" + s, s + "a", "a" + s + "a", "g/" + s, "g/a" + s, s + "/a", "a" + s + "/a", s + s + s, strings.Repeat(s, 80), strings.Repeat(s, 81)} {
			if got, want := vfs.Right(path), oracleRight(path); got != want {
				t.Errorf("Right(%q): %v", path, got)
			}
		}
	}
	for length := range 100 {
		part := strings.Repeat("x", length)
		for _, path := range []string{part, part + "/a", "a/" + part, part + "/" + part} {
			if got, want := vfs.Right(path), oracleRight(path); got != want {
				t.Errorf("Right of parts of %d: %v", length, got)
			}
		}
	}
}

// TestWrongPaths has all calls with paths that aren't right: they answer so,
// whatever else there is, and no such path is named or listed.
func TestWrongPaths(t *testing.T) { // P6.1
	d := vfs.New(100)
	write(t, d, "a", "x")
	for _, path := range []string{"", ".", "..", "/", "a/", "/a", "a/b/c", "a b", "ä", "a\x00", "a/.", strings.Repeat("x", 81)} {
		is(t, d.Write(path, nil), api.ErrArg)
		is(t, d.Write(path, make([]byte, 101)), api.ErrArg)
		is(t, d.Append(path, nil), api.ErrArg)
		is(t, d.Rename(path, "a"), api.ErrArg)
		is(t, d.Rename("a", path), api.ErrArg)
		is(t, d.Rename("none", path), api.ErrArg)
		is(t, d.Rename(path, path), api.ErrArg)
		is(t, d.Remove(path), api.ErrArg)
		is(t, d.Sync(path), api.ErrArg)
		if b, e := d.Read(path); b != nil || e != api.ErrNone {
			t.Errorf("Read(%q): %q, %v", path, b, e)
		}
		if path != "" && len(d.List(path)) > 0 {
			t.Errorf("List(%q): %q", path, d.List(path))
		}
	}
	for _, dir := range []string{".", "..", "/", "a/", "/a", "a/b", "g/a", "a b", "ä", "\n", strings.Repeat("x", 81)} {
		is(t, d.SyncDir(dir), api.ErrArg)
	}
	for _, dir := range []string{"", "a", "g", "...", "none", strings.Repeat("x", 80)} {
		ok(t, d.SyncDir(dir))
	}
	holds(t, d, "a", "x")
}

func TestRoom(t *testing.T) { // P6.1, P6.2
	for _, room := range []int{0, -1, -100, math.MinInt} {
		d := vfs.New(room)
		holds(t, d)
		is(t, d.Write("a", []byte("x")), api.ErrRoom)
		is(t, d.Append("a", []byte("x")), api.ErrNone)
		holds(t, d)
		ok(t, d.Write("a", nil))
		ok(t, d.Append("a", []byte{}))
		is(t, d.Append("a", []byte("x")), api.ErrRoom)
		holds(t, d, "a", "")
	}
	for _, room := range []int{1, 2, 10, 1000} {
		d := vfs.New(room)
		is(t, d.Write("a", make([]byte, room+1)), api.ErrRoom)
		holds(t, d)
		ok(t, d.Write("a", make([]byte, room)))
		is(t, d.Append("a", []byte("x")), api.ErrRoom)
		is(t, d.Write("b", []byte("x")), api.ErrRoom)
		is(t, d.Write("g/b", []byte("x")), api.ErrRoom)
		ok(t, d.Append("a", nil))
		ok(t, d.Write("b", nil))
		if d.Used() != room || len(d.List("")) != 2 {
			t.Errorf("Used: %d, %q", d.Used(), d.List(""))
		}
	}
	d := vfs.New(math.MaxInt)
	write(t, d, "a", "x")
	write(t, d, "b", "y")
	ok(t, d.Append("a", []byte("z")))
	holds(t, d, "a", "xz", "b", "y")
}

// TestRoomOfOthers has what is used by bodies that paths name, and by no others.
func TestRoomOfOthers(t *testing.T) { // P6.1, P6.2
	d := vfs.New(10)
	write(t, d, "a", "12345")
	write(t, d, "a", "1234567890")
	is(t, d.Write("a", make([]byte, 11)), api.ErrRoom)
	holds(t, d, "a", "1234567890")
	write(t, d, "a", "123")
	write(t, d, "g/a", "1234567")
	is(t, d.Write("a", []byte("1234")), api.ErrRoom)
	is(t, d.Write("h/a", []byte("1")), api.ErrRoom)
	write(t, d, "g/a", "123456")
	write(t, d, "a", "1234")
	write(t, d, "g/b", "")
	ok(t, d.Rename("g/a", "g/b"))
	is(t, d.Append("a", []byte("x")), api.ErrRoom)
	ok(t, d.Remove("g/b"))
	if d.Used() != 4 {
		t.Errorf("Used: %d", d.Used())
	}
	ok(t, d.Append("a", []byte("567890")))
	is(t, d.Append("a", []byte("x")), api.ErrRoom)
	holds(t, d, "a", "1234567890")
	write(t, d, "a", "")
	write(t, d, "b", "1234567890")
	ok(t, d.Rename("a", "b"))
	holds(t, d, "b", "")
}

// TestRoomThatIsLacking has a crash that brings back more than there is room for.
func TestRoomThatIsLacking(t *testing.T) { // P6.2, P6.3
	d := vfs.New(10)
	kept(t, d, "g/a", "1234567890")
	ok(t, d.Remove("g/a"))
	kept(t, d, "h/a", "abcdefghij")
	d.Crash()
	holds(t, d, "g/a", "1234567890", "h/a", "abcdefghij")
	is(t, d.Write("b", nil), api.ErrRoom)
	is(t, d.Append("g/a", nil), api.ErrRoom)
	is(t, d.Write("g/a", []byte("x")), api.ErrRoom)
	holds(t, d, "g/a", "1234567890", "h/a", "abcdefghij")
	write(t, d, "g/a", "")
	ok(t, d.Append("g/a", nil))
	write(t, d, "b", "")
	is(t, d.Write("b", []byte("x")), api.ErrRoom)
	holds(t, d, "g/a", "", "h/a", "abcdefghij", "b", "")
}

func TestWriteAndRead(t *testing.T) { // P6.1, P6.2
	d := vfs.New(1 << 20)
	holds(t, d)
	allBytes := make([]byte, 0x100)
	for i := range allBytes {
		allBytes[i] = byte(i)
	}
	for _, body := range []string{"x", "", "a longer one", string(allBytes), strings.Repeat("x", 1<<18), "y"} {
		write(t, d, "a", body)
		holds(t, d, "a", body)
		write(t, d, "g/a", body+"!")
		holds(t, d, "a", body, "g/a", body+"!")
		ok(t, d.Remove("g/a"))
	}
	b, e := d.Read("g/a")
	if b != nil || e != api.ErrNone {
		t.Errorf("Read of nothing: %q, %v", b, e)
	}
}

func TestAppend(t *testing.T) { // P6.2
	d := vfs.New(100)
	is(t, d.Append("a", []byte("x")), api.ErrNone)
	is(t, d.Append("a", nil), api.ErrNone)
	is(t, d.Append("a", make([]byte, 101)), api.ErrNone)
	holds(t, d)
	write(t, d, "a", "")
	for _, more := range []string{"", "b", "cd", "", "efg"} {
		ok(t, d.Append("a", []byte(more)))
	}
	holds(t, d, "a", "bcdefg")
	ok(t, d.Rename("a", "b"))
	is(t, d.Append("a", []byte("x")), api.ErrNone)
	ok(t, d.Append("b", []byte("h")))
	holds(t, d, "b", "bcdefgh")
	is(t, d.Append("b", make([]byte, 94)), api.ErrRoom)
	holds(t, d, "b", "bcdefgh")
	ok(t, d.Append("b", bytes.Repeat([]byte("-"), 93)))
	holds(t, d, "b", "bcdefgh"+strings.Repeat("-", 93))
}

func TestRename(t *testing.T) { // P6.2
	d := vfs.New(100)
	is(t, d.Rename("a", "b"), api.ErrNone)
	is(t, d.Rename("a", "a"), api.ErrNone)
	write(t, d, "a", "one")
	write(t, d, "b", "two")
	ok(t, d.Rename("a", "a"))
	holds(t, d, "a", "one", "b", "two")
	ok(t, d.Rename("a", "b"))
	holds(t, d, "b", "one")
	is(t, d.Rename("a", "b"), api.ErrNone)
	is(t, d.Rename("a", "c"), api.ErrNone)
	holds(t, d, "b", "one")
	ok(t, d.Rename("b", "c"))
	holds(t, d, "c", "one")
	for _, to := range []string{"g/c", "g/a", "c/c"} {
		is(t, d.Rename("c", to), api.ErrArg)
		is(t, d.Rename(to, "c"), api.ErrArg)
	}
	write(t, d, "g/a", "three")
	is(t, d.Rename("g/a", "a"), api.ErrArg)
	is(t, d.Rename("g/a", "h/a"), api.ErrArg)
	is(t, d.Rename("g/none", "h/none"), api.ErrArg)
	ok(t, d.Rename("g/a", "g/g"))
	holds(t, d, "c", "one", "g/g", "three")
}

// TestNamesOfDirectories has a file of the name of a directory.
func TestNamesOfDirectories(t *testing.T) { // P6.1, P6.2
	d := vfs.New(100)
	write(t, d, "g/g", "within")
	is(t, d.Remove("g"), api.ErrNone)
	write(t, d, "g", "beside")
	holds(t, d, "g", "beside", "g/g", "within")
	ok(t, d.Rename("g", "h"))
	holds(t, d, "h", "beside", "g/g", "within")
	ok(t, d.Remove("h"))
	holds(t, d, "g/g", "within")
}

func TestRemove(t *testing.T) { // P6.2
	d := vfs.New(100)
	is(t, d.Remove("a"), api.ErrNone)
	write(t, d, "a", "x")
	write(t, d, "g/a", "y")
	ok(t, d.Remove("a"))
	is(t, d.Remove("a"), api.ErrNone)
	is(t, d.Sync("a"), api.ErrNone)
	is(t, d.Append("a", nil), api.ErrNone)
	holds(t, d, "g/a", "y")
	write(t, d, "a", "z")
	holds(t, d, "a", "z", "g/a", "y")
}

func TestList(t *testing.T) { // P6.1
	d := vfs.New(100)
	for _, path := range []string{"b", "a", "g/z", "a.b", "a-b", "B", "_", "0", "10", "9", "g/10", "g/9", "g", "gg/a", "g-/a", "ab"} {
		write(t, d, path, "x")
	}
	for _, p := range []struct {
		dir  string
		want []string
	}{
		{"", []string{"0", "10", "9", "B", "_", "a", "a-b", "a.b", "ab", "b", "g"}},
		{"g", []string{"g/10", "g/9", "g/z"}},
		{"gg", []string{"gg/a"}},
		{"g-", []string{"g-/a"}},
		{"a", nil}, {"none", nil}, {"/", nil}, {"g/", nil}, {"g/z", nil}, {".", nil}, {"\xff", nil},
	} {
		for range 3 {
			if got := d.List(p.dir); !slices.Equal(got, p.want) {
				t.Errorf("List(%q): %q", p.dir, got)
			}
		}
	}
	for _, path := range d.List("g") {
		ok(t, d.Remove(path))
	}
	if got := d.List("g"); len(got) > 0 {
		t.Errorf("List(g): %q", got)
	}
}

// TestOrderOfErrors has calls for which more than one error holds.
func TestOrderOfErrors(t *testing.T) { // P6.1
	d := vfs.New(1)
	is(t, d.Append("none", []byte("xx")), api.ErrNone) // ahead of ErrRoom
	d.Fail(0, false)
	is(t, d.Write("a b", []byte("xx")), api.ErrArg)
	is(t, d.Append("a b", []byte("xx")), api.ErrArg)
	is(t, d.Rename("a b", "c"), api.ErrArg)
	is(t, d.Rename("none", "g/none"), api.ErrArg)
	is(t, d.Remove("."), api.ErrArg)
	is(t, d.Sync(""), api.ErrArg)
	is(t, d.SyncDir("a/b"), api.ErrArg)
	is(t, d.Write("a", []byte("xx")), api.ErrDisk)
	is(t, d.Append("none", []byte("xx")), api.ErrDisk)
	is(t, d.Rename("none", "other"), api.ErrDisk)
	is(t, d.Rename("none", "none"), api.ErrDisk)
	is(t, d.Remove("none"), api.ErrDisk)
	is(t, d.Sync("none"), api.ErrDisk)
	is(t, d.SyncDir("none"), api.ErrDisk)
}

// TestFailings has each call fail, for good and once, behind none and more.
func TestFailings(t *testing.T) { // P6.3
	for _, call := range calls {
		for _, ahead := range []int{-3, -1, 0, 1, 2, 5} {
			for _, once := range []bool{false, true} {
				d := vfs.New(100)
				kept(t, d, "g/a", "x")
				d.Fail(ahead, once)
				for range max(ahead, 0) {
					ok(t, d.Sync("g/a"))
				}
				is(t, call.do(d, "g/a"), api.ErrDisk)
				holds(t, d, "g/a", "x")
				for range 3 {
					if e := d.Sync("g/a"); (e == api.ErrDisk) == once {
						t.Errorf("%s failed, once: %v; behind that %v", call.name, once, e)
					}
				}
				d.Crash(1, 1, 1, 1)
				holds(t, d, "g/a", "x")
				ok(t, call.do(d, "g/a"))
			}
		}
	}
}

// TestFailingChangesNothing has a failing call and then a crash, which takes no
// number for it.
func TestFailingChangesNothing(t *testing.T) { // P6.3
	for _, call := range calls {
		for _, first := range []int{0, 1, 2} {
			d := vfs.New(100)
			kept(t, d, "g/a", "x")
			ok(t, d.Append("g/a", []byte("y")))
			write(t, d, "g/b", "z")
			d.Fail(0, true)
			is(t, call.do(d, "g/a"), api.ErrDisk)
			holds(t, d, "g/a", "xy", "g/b", "z")
			d.Crash(first, 0, 1)
			if first == 1 {
				holds(t, d, "g/a", "xy", "g/b", "")
			} else {
				holds(t, d, "g/a", "x", "g/b", "")
			}
		}
	}
}

// TestCallsThatCount has calls that count for Fail whatever they answer, and
// others that don't.
func TestCallsThatCount(t *testing.T) { // P6.3
	for _, call := range calls {
		for _, path := range []string{"g/a", "g/none"} {
			d := vfs.New(100)
			write(t, d, "g/a", "x")
			d.Fail(1, true)
			if e := call.do(d, path); e == api.ErrDisk {
				t.Errorf("%s has failed ahead of its turn", call.name)
			}
			is(t, d.Sync("g/other"), api.ErrDisk)
			is(t, d.Sync("g/other"), api.ErrNone)
		}
	}
	d := vfs.New(1)
	write(t, d, "a", "x")
	d.Fail(1, true)
	is(t, d.Write("b", []byte("x")), api.ErrRoom)
	is(t, d.Append("a", []byte("x")), api.ErrDisk)
	d.Fail(1, true)
	ok(t, d.Rename("a", "a"))
	is(t, d.Rename("a", "a"), api.ErrDisk)
	d.Fail(2, true)
	for range 5 { // none of these counts
		is(t, d.Write("a b", nil), api.ErrArg)
		is(t, d.Append("", nil), api.ErrArg)
		is(t, d.Rename("a", "g/a"), api.ErrArg)
		is(t, d.Remove(".."), api.ErrArg)
		is(t, d.Sync("a/"), api.ErrArg)
		is(t, d.SyncDir("/"), api.ErrArg)
		holds(t, d, "a", "x")
		vfs.Right("a")
	}
	ok(t, d.SyncDir(""))
	ok(t, d.Sync("a"))
	is(t, d.SyncDir(""), api.ErrDisk)
	ok(t, d.SyncDir(""))
}

// TestReadingNeverFails has what doesn't change or sync anything.
func TestReadingNeverFails(t *testing.T) { // P6.1
	d := vfs.New(100)
	write(t, d, "a", "x")
	write(t, d, "g/a", "y")
	d.Fail(0, false)
	for range 3 {
		holds(t, d, "a", "x", "g/a", "y")
		if _, e := d.Read("none"); e != api.ErrNone {
			t.Errorf("Read: %v", e)
		}
		is(t, d.Write("a", nil), api.ErrDisk)
	}
}

// TestFailAnew has another Fail stand in the place of the one before.
func TestFailAnew(t *testing.T) { // P6.3
	d := vfs.New(100)
	d.Fail(0, false)
	is(t, d.SyncDir(""), api.ErrDisk)
	d.Fail(2, true)
	ok(t, d.SyncDir(""))
	d.Fail(2, false)
	ok(t, d.SyncDir(""))
	ok(t, d.SyncDir(""))
	is(t, d.SyncDir(""), api.ErrDisk)
	is(t, d.SyncDir(""), api.ErrDisk)
	d.Fail(0, true)
	is(t, d.SyncDir(""), api.ErrDisk)
	ok(t, d.SyncDir(""))
	d.Fail(-1, true)
	d.Fail(math.MaxInt, false)
	for range 1000 {
		ok(t, d.SyncDir(""))
	}
	d.Fail(math.MinInt, false)
	is(t, d.SyncDir(""), api.ErrDisk)
	d.Fail(3, false)
	ok(t, d.SyncDir(""))
	d.Crash()
	for range 10 {
		ok(t, d.SyncDir(""))
	}
}

// TestBytesOfACrash has what stays of one body, by a number and its rest.
func TestBytesOfACrash(t *testing.T) { // P6.3
	for _, p := range []struct {
		keep []int
		want string
	}{
		{nil, "kept"}, {[]int{0}, "kept"}, {[]int{1}, "kept1"}, {[]int{2}, "kept12"}, {[]int{3}, "kept123"}, {[]int{4}, "kept"}, {[]int{5}, "kept1"},
		{[]int{7}, "kept123"}, {[]int{8, 1, 2, 3}, "kept"}, {[]int{-1}, "kept123"}, {[]int{-2}, "kept12"}, {[]int{-3}, "kept1"}, {[]int{-4}, "kept"}, {[]int{-5}, "kept123"},
		{[]int{math.MaxInt}, "kept123"}, {[]int{math.MaxInt - 3}, "kept"}, {[]int{math.MinInt}, "kept"}, {[]int{math.MinInt + 1}, "kept1"}, {[]int{1 << 40}, "kept"}, {[]int{1<<40 + 2}, "kept12"},
	} {
		d := vfs.New(100)
		kept(t, d, "a", "kept")
		ok(t, d.Append("a", []byte("1")))
		ok(t, d.Append("a", []byte("23")))
		holds(t, d, "a", "kept123")
		d.Crash(p.keep...)
		holds(t, d, "a", p.want)
		for range 3 {
			d.Crash(p.keep...) // all that stayed is kept
			holds(t, d, "a", p.want)
		}
		ok(t, d.Append("a", []byte("xy")))
		d.Crash(1)
		holds(t, d, "a", p.want+"x")
	}
}

// TestNamesOfACrash has what stays of the changes of one directory.
func TestNamesOfACrash(t *testing.T) { // P6.3
	states := [][]string{
		{"g/a", "1"},
		{"g/a", "1", "g/b", "2"},
		{"g/b", "1"},
		{"g/b", "1", "g/a", "3"},
		{"g/a", "3"},
		{"g/a", "4"},
		{},
	}
	for keep, number := range map[int]int{
		0: 0, 1: 1, 2: 2, 3: 3, 4: 4, 5: 5, 6: 6, 7: 0, 8: 1, 13: 6, 14: 0, -1: 6, -2: 5, -6: 1, -7: 0, -8: 6,
		math.MaxInt: math.MaxInt % 7, math.MinInt: (math.MinInt%7 + 7) % 7,
	} {
		d := vfs.New(100)
		kept(t, d, "g/a", "1")
		write(t, d, "g/b", "2")
		ok(t, d.Sync("g/b"))
		ok(t, d.Rename("g/a", "g/b"))
		write(t, d, "g/a", "3")
		ok(t, d.Sync("g/a"))
		ok(t, d.Remove("g/b"))
		write(t, d, "g/a", "4")
		ok(t, d.Sync("g/a"))
		ok(t, d.Remove("g/a"))
		is(t, d.Remove("g/a"), api.ErrNone) // no change
		is(t, d.Write("g/a", make([]byte, 101)), api.ErrRoom)
		d.Crash(keep)
		holds(t, d, states[number]...)
		d.Crash(keep, 1, 1)
		holds(t, d, states[number]...)
	}
}

// TestNumbersInOrder has bodies in the order in which they were made, then
// directories in theirs, each with a number of its own.
func TestNumbersInOrder(t *testing.T) { // P6.3
	made := func() *vfs.Disk {
		d := vfs.New(100)
		write(t, d, "h/a", "abc")
		write(t, d, "z", "defg")
		write(t, d, "g/a", "")
		write(t, d, "g/b", "hi")
		write(t, d, "A", "all of it")
		ok(t, d.Sync("A"))
		write(t, d, "b", "jkl")
		return d
	}
	for _, p := range []struct {
		keep []int
		want []string
	}{
		{nil, nil},
		{[]int{1, 2, 1, 3, 3, 2, 1}, []string{"h/a", "a", "z", "de", "g/a", "", "g/b", "h", "A", "all of it", "b", "jkl"}},
		{[]int{3, 4, 2, 3, 3, 2, 1, 99}, []string{"h/a", "abc", "z", "defg", "g/a", "", "g/b", "hi", "A", "all of it", "b", "jkl"}},
		{[]int{3, 4, 2, 3, 2, 1, 0}, []string{"z", "defg", "A", "all of it", "g/a", ""}},
		{[]int{3, 4, 2, 3, 0, 0, 1}, []string{"h/a", "abc"}},
		{[]int{3, 4, 2, 3, 1}, []string{"z", "defg"}},
		{[]int{0, 0, 0, 0, 3, 2}, []string{"z", "", "A", "all of it", "b", "", "g/a", "", "g/b", ""}},
		{[]int{-1, -1, -1, -1, -1, -1, -1}, []string{"h/a", "abc", "z", "defg", "g/a", "", "g/b", "hi", "A", "all of it", "b", "jkl"}},
	} {
		d := made()
		d.Crash(p.keep...)
		holds(t, d, p.want...)
		d.Crash(1, 1, 1)
		holds(t, d, p.want...)
	}
}

// TestOrderOfMaking has bodies whose paths and whose last bytes are in another
// order than they were made.
func TestOrderOfMaking(t *testing.T) { // P6.3
	d := vfs.New(100)
	for _, path := range []string{"c", "b", "a"} {
		kept(t, d, path, path)
	}
	ok(t, d.Rename("b", "z"))
	ok(t, d.SyncDir(""))
	for _, path := range []string{"a", "z", "c"} {
		ok(t, d.Append(path, []byte("123456")))
	}
	d.Crash(1, 2, 3)
	holds(t, d, "c", "c1", "z", "b12", "a", "a123")
	for _, path := range []string{"a", "c", "z"} { // likewise behind a crash
		ok(t, d.Append(path, []byte("789")))
	}
	d.Crash(0, 1, 2)
	holds(t, d, "c", "c1", "z", "b127", "a", "a12378")
}

// TestManyBodies has more than fit in a few places, so that none is left to
// chance.
func TestManyBodies(t *testing.T) { // P6.3
	const n = 300
	d := vfs.New(1 << 20)
	var keep []int
	var want []string
	for i := range n {
		part := string([]byte{byte('a' + i*7%26), byte('a' + i/26)})
		path := []string{"g/", "h/", "", "i/"}[i%4] + part
		body := strings.Repeat(part, i)
		write(t, d, path, body)
		if i == 0 {
			want = append(want, path, "")
			continue // without bytes: no number
		}
		keep = append(keep, i*5%(2*i+1))
		want = append(want, path, body[:i*5%(2*i+1)])
	}
	d.Crash(append(keep, -1, -1, -1, -1)...)
	holds(t, d, want...)
}

// TestBodyThatOnlyAChangeNames has its number, and is there again if the
// changes up to that one stay.
func TestBodyThatOnlyAChangeNames(t *testing.T) { // P6.3
	made := func() *vfs.Disk {
		d := vfs.New(100)
		write(t, d, "a", "one")
		write(t, d, "a", "two")
		return d
	}
	for changes, want := range map[int][]string{0: nil, 1: {"a", "on"}, 2: {"a", "t"}} {
		d := made()
		d.Crash(2, 1, changes)
		holds(t, d, want...)
	}
	d := vfs.New(100)
	write(t, d, "a", "one")
	ok(t, d.Remove("a"))
	write(t, d, "b", "two")
	d.Crash(1, 2, 1)
	holds(t, d, "a", "o")
	d = vfs.New(100)
	kept(t, d, "a", "kept")
	ok(t, d.Append("a", []byte("123"))) // what is kept names this one, and no path
	write(t, d, "a", "new")
	d.Crash(2, 1)
	holds(t, d, "a", "kept12")
}

// TestBodyThatNothingNames has its number too, as long as its bytes aren't all
// kept: the chapter speaks of each body.
func TestBodyThatNothingNames(t *testing.T) { // P6.3
	for _, gone := range []func(d *vfs.Disk) api.Errno{
		func(d *vfs.Disk) api.Errno { return d.Remove("a") },
		func(d *vfs.Disk) api.Errno { return d.Write("a", nil) },
		func(d *vfs.Disk) api.Errno { return d.Rename("empty", "a") },
	} {
		for _, first := range []int{0, 1, 2, 3, 4, -1} {
			d := vfs.New(100)
			kept(t, d, "empty", "")
			write(t, d, "a", "one")
			ok(t, gone(d))
			ok(t, d.SyncDir(""))
			used := d.Used()
			write(t, d, "g/a", "two")
			ok(t, d.SyncDir("g"))
			if used != 0 || d.Used() != 3 {
				t.Errorf("Used: %d, then %d", used, d.Used())
			}
			d.Crash(first, 2)
			if b, e := d.Read("g/a"); string(b) != "tw" || e != api.OK {
				t.Errorf("Crash(%d, 2): %q, %v", first, b, e)
			}
			ok(t, d.Append("g/a", []byte("xyz")))
			d.Crash(1) // none is left but that one
			if b, e := d.Read("g/a"); string(b) != "twx" || e != api.OK {
				t.Errorf("Crash(1): %q, %v", b, e)
			}
		}
	}
	d := vfs.New(100)
	kept(t, d, "a", "one") // all kept: no number
	ok(t, d.Remove("a"))
	ok(t, d.SyncDir(""))
	write(t, d, "g/a", "two")
	ok(t, d.SyncDir("g"))
	d.Crash(1, 2)
	holds(t, d, "g/a", "t")
}

// TestBodyThatTwoChangesName is under one of two names by how many changes
// stay; its bytes have one number.
func TestBodyThatTwoChangesName(t *testing.T) { // P6.3
	for changes, want := range map[int][]string{0: nil, 1: {"a", "one t"}, 2: {"b", "one t"}, 3: {"c", "one t"}, 4: {"c", "one t", "a", "o"}, 5: nil, -1: {"c", "one t", "a", "o"}} {
		d := vfs.New(100)
		write(t, d, "a", "one")
		ok(t, d.Sync("a"))
		ok(t, d.Rename("a", "b"))
		ok(t, d.Rename("b", "c"))
		write(t, d, "a", "other")
		ok(t, d.Append("c", []byte(" two"))) // behind the body's bytes wherever it is named
		d.Crash(2, 1, changes)
		holds(t, d, want...)
	}
	d := vfs.New(100)
	write(t, d, "a", "one")
	ok(t, d.Rename("a", "b"))
	ok(t, d.Sync("b")) // as is what is synced
	d.Crash(1)
	holds(t, d, "a", "one")
}

// TestRenameIsOneChange has both of it stay, or nothing.
func TestRenameIsOneChange(t *testing.T) { // P6.2, P6.3
	for changes, want := range [][]string{{"g/a", "one", "g/b", "two"}, {"g/b", "one"}} {
		d := vfs.New(100)
		kept(t, d, "g/a", "one")
		kept(t, d, "g/b", "two")
		ok(t, d.Rename("g/a", "g/a"))
		ok(t, d.Rename("g/a", "g/b"))
		ok(t, d.Rename("g/b", "g/b"))
		d.Crash(changes)
		holds(t, d, want...)
	}
}

// TestSyncKeepsBytes has a sync keep one body's bytes, and no name.
func TestSyncKeepsBytes(t *testing.T) { // P6.2
	d := vfs.New(100)
	is(t, d.Sync("a"), api.ErrNone)
	write(t, d, "a", "one")
	write(t, d, "b", "two")
	ok(t, d.Sync("a"))
	ok(t, d.Sync("a"))
	ok(t, d.SyncDir(""))
	d.Crash()
	holds(t, d, "a", "one", "b", "")
	ok(t, d.Append("a", []byte("12")))
	ok(t, d.Append("b", []byte("34")))
	ok(t, d.Sync("b"))
	ok(t, d.Append("b", []byte("56")))
	d.Crash()
	holds(t, d, "a", "one", "b", "34")
	write(t, d, "a", "new") // a new body: nothing of it is kept
	ok(t, d.SyncDir(""))
	d.Crash()
	holds(t, d, "a", "", "b", "34")
}

// TestSyncDirKeepsNames has a sync keep one directory's names, and no bytes.
func TestSyncDirKeepsNames(t *testing.T) { // P6.2
	d := vfs.New(100)
	for _, path := range []string{"a", "g/a", "h/a"} {
		write(t, d, path, path)
		ok(t, d.Sync(path))
	}
	ok(t, d.SyncDir("g"))
	ok(t, d.SyncDir("none"))
	d.Crash()
	holds(t, d, "g/a", "g/a")
	write(t, d, "a", "1")
	ok(t, d.SyncDir(""))
	ok(t, d.Rename("g/a", "g/b"))
	ok(t, d.SyncDir("g"))
	ok(t, d.Remove("a"))
	ok(t, d.Remove("g/b"))
	holds(t, d)
	d.Crash(1)
	holds(t, d, "a", "1", "g/b", "g/a")
	ok(t, d.Remove("a"))
	ok(t, d.SyncDir(""))
	d.Crash()
	holds(t, d, "g/b", "g/a")
}

// TestCrashBehindCrash goes on with what stays.
func TestCrashBehindCrash(t *testing.T) { // P6.3
	d := vfs.New(100)
	write(t, d, "a", "123")
	write(t, d, "g/a", "456")
	d.Crash(2, 1, 1, 1)
	holds(t, d, "a", "12", "g/a", "4")
	ok(t, d.Append("a", []byte("xyz")))
	ok(t, d.Rename("a", "b"))
	write(t, d, "g/a", "new")
	holds(t, d, "b", "12xyz", "g/a", "new")
	d.Crash(1, 3, 0, 1)
	holds(t, d, "a", "12x", "g/a", "new")
	ok(t, d.Remove("g/a"))
	d.Crash()
	d.Crash(5, 5, 5)
	holds(t, d, "a", "12x", "g/a", "new")
	ok(t, d.Remove("g/a"))
	d.Crash(1)
	holds(t, d, "a", "12x")
	write(t, d, "g/a", "1")
	holds(t, d, "a", "12x", "g/a", "1")
	d.Fail(0, false)
	d.Crash(1, 1)
	holds(t, d, "a", "12x", "g/a", "1")
	ok(t, d.Write("a", nil))
}

func TestNilDisk(t *testing.T) { // the chapter's last sentence
	var none *vfs.Disk
	for _, path := range []string{"a", "", "g/a", "."} {
		is(t, none.Write(path, []byte("x")), api.ErrNil)
		is(t, none.Append(path, nil), api.ErrNil)
		is(t, none.Rename(path, "b"), api.ErrNil)
		is(t, none.Remove(path), api.ErrNil)
		is(t, none.Sync(path), api.ErrNil)
		is(t, none.SyncDir(path), api.ErrNil)
		if b, e := none.Read(path); b != nil || e != api.ErrNil {
			t.Errorf("Read: %q, %v", b, e)
		}
		if list := none.List(path); list != nil {
			t.Errorf("List: %q", list)
		}
	}
	none.Fail(1, true)
	none.Crash()
	none.Crash(1, 2, 3)
	if none.Used() != 0 {
		t.Errorf("Used: %d", none.Used())
	}
}

// TestBytesInAndOut has the caller change what was handed in, what was
// answered, and the spare room of both.
func TestBytesInAndOut(t *testing.T) { // P6.1, rule 5
	d := vfs.New(100)
	given := []byte("one two three")
	ok(t, d.Write("a", given[:3]))
	ok(t, d.Append("a", given[3:7]))
	if string(given) != "one two three" {
		t.Errorf("the bytes that were handed in are %q", given)
	}
	clear(given)
	holds(t, d, "a", "one two")
	for range 3 {
		b, _ := d.Read("a")
		other, _ := d.Read("a")
		_ = append(b, "spare room"...)
		clear(b[:cap(b)])
		if string(other) != "one two" {
			t.Errorf("Read's bytes are another answer's: %q", other)
		}
		holds(t, d, "a", "one two")
	}
	b, _ := d.Read("a")
	ok(t, d.Append("a", []byte(" more")))
	ok(t, d.Append("a", b))
	ok(t, d.Write("b", b))
	clear(b)
	holds(t, d, "a", "one two moreone two", "b", "one two")
	b, _ = d.Read("a")
	d.Crash(-1, -1, 2)
	ok(t, d.Append("a", []byte("!")))
	if string(b) != "one two moreone two" {
		t.Errorf("an answer is %q behind a crash", b)
	}
	list := d.List("")
	_ = append(list, "spare room")
	clear(list[:cap(list)])
	if got := d.List(""); !slices.Equal(got, []string{"a", "b"}) {
		t.Errorf("List: %q", got)
	}
}

// TestCrashNumbersInAndOut has a list of numbers that is handed in stay as it is.
func TestCrashNumbersInAndOut(t *testing.T) { // rule 5
	d := vfs.New(100)
	write(t, d, "a", "abc")
	write(t, d, "b", "abc")
	keep := []int{1, -1, 2, 7, 8}
	d.Crash(keep[:3]...)
	if !slices.Equal(keep, []int{1, -1, 2, 7, 8}) {
		t.Errorf("Crash changes its numbers: %v", keep)
	}
	clear(keep)
	holds(t, d, "a", "a", "b", "abc")
}

// TestPathsAreNotKept has paths that are parts of memory that becomes another.
func TestPathsAreNotKept(t *testing.T) { // rule 5
	d := vfs.New(100)
	memory := []byte("abg/a")
	path := func(from, to int) string { return unsafe.String(&memory[from], to-from) }
	ok(t, d.Write(path(0, 1), []byte("1")))
	ok(t, d.Rename(path(0, 1), path(1, 2)))
	ok(t, d.Write(path(2, 5), []byte("2")))
	for i := range memory {
		memory[i] = 'z'
	}
	holds(t, d, "b", "1", "g/a", "2")
	d.Crash(1, 1, 1, 1)
	holds(t, d, "a", "1", "g/a", "2")
}

// TestDisksApart has one disk know nothing of another.
func TestDisksApart(t *testing.T) { // rule 7
	one, two := vfs.New(10), vfs.New(5)
	write(t, one, "a", "1234567890")
	holds(t, two)
	is(t, two.Write("a", []byte("123456")), api.ErrRoom)
	write(t, two, "a", "12345")
	one.Fail(0, false)
	ok(t, two.Sync("a"))
	is(t, one.Sync("a"), api.ErrDisk)
	one.Crash()
	holds(t, one)
	holds(t, two, "a", "12345")
}

// TestUsedBySum has Used beside many changes of many files.
func TestUsedBySum(t *testing.T) { // P6.1
	d := vfs.New(1 << 20)
	sum := 0
	for i := range 400 {
		path := "g" + strings.Repeat("x", i%7) + "/" + strings.Repeat("y", 1+i%60)
		old, _ := d.Read(path)
		write(t, d, path, strings.Repeat("z", i))
		sum += i - len(old)
		if d.Used() != sum {
			t.Fatalf("Used: %d, not %d", d.Used(), sum)
		}
	}
}
