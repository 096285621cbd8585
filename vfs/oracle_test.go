package vfs_test

import (
	"maps"
	"math"
	"math/big"
	"math/rand"
	"regexp"
	"slices"
	"strings"
	"testing"

	"broadsheet/api"
	"broadsheet/vfs"
)

// oracle is a disk as the chapter's words have it: all bodies that were ever
// made, and of each directory what it named behind each change.
type oracle struct {
	room   int
	bodies []*oracleBody
	dirs   map[string][]map[string]*oracleBody // the first is what is kept, the last is now
	fails  func() bool
}

type oracleBody struct{ kept, rest []byte }

func newOracle(room int) *oracle {
	return &oracle{room: max(room, 0), dirs: map[string][]map[string]*oracleBody{}, fails: never}
}

func never() bool { return false }

var (
	rightPath = regexp.MustCompile(`\A[-_.A-Za-z0-9]{1,80}(/[-_.A-Za-z0-9]{1,80})?\z`)
	rightDir  = regexp.MustCompile(`\A[-_.A-Za-z0-9]{0,80}\z`)
	dots      = regexp.MustCompile(`(\A|/)\.\.?(/|\z)`)
)

func oracleRight(path string) bool {
	return rightPath.MatchString(path) && !dots.MatchString(path)
}

func dirOf(path string) string {
	return path[:max(strings.Index(path, "/"), 0)]
}

func (o *oracle) now(dir string) map[string]*oracleBody {
	states := o.dirs[dir]
	if len(states) == 0 {
		return nil
	}
	return states[len(states)-1]
}

func (o *oracle) named(path string) *oracleBody { return o.now(dirOf(path))[path] }

func (o *oracle) change(dir string, f func(names map[string]*oracleBody)) {
	if len(o.dirs[dir]) == 0 {
		o.dirs[dir] = []map[string]*oracleBody{{}}
	}
	names := maps.Clone(o.now(dir))
	f(names)
	o.dirs[dir] = append(o.dirs[dir], names)
}

func (o *oracle) used() int {
	sum := 0
	for dir := range o.dirs {
		for _, b := range o.now(dir) {
			sum += len(b.kept) + len(b.rest)
		}
	}
	return sum
}

func (o *oracle) first(right bool) api.Errno {
	if !right {
		return api.ErrArg
	}
	if o.fails() {
		return api.ErrDisk
	}
	return api.OK
}

func (o *oracle) write(path string, b []byte) api.Errno {
	if e := o.first(oracleRight(path)); e != api.OK {
		return e
	}
	would := o.used() + len(b)
	if old := o.named(path); old != nil {
		would -= len(old.kept) + len(old.rest)
	}
	if would > o.room {
		return api.ErrRoom
	}
	made := &oracleBody{nil, slices.Clone(b)}
	o.bodies = append(o.bodies, made)
	o.change(dirOf(path), func(names map[string]*oracleBody) { names[path] = made })
	return api.OK
}

func (o *oracle) append(path string, b []byte) api.Errno {
	if e := o.first(oracleRight(path)); e != api.OK {
		return e
	}
	named := o.named(path)
	if named == nil {
		return api.ErrNone
	}
	if o.used()+len(b) > o.room {
		return api.ErrRoom
	}
	named.rest = slices.Concat(named.rest, b)
	return api.OK
}

func (o *oracle) rename(from, to string) api.Errno {
	if e := o.first(oracleRight(from) && oracleRight(to) && dirOf(from) == dirOf(to)); e != api.OK {
		return e
	}
	named := o.named(from)
	if named == nil {
		return api.ErrNone
	}
	if from != to {
		o.change(dirOf(from), func(names map[string]*oracleBody) {
			names[to] = named
			delete(names, from)
		})
	}
	return api.OK
}

func (o *oracle) remove(path string) api.Errno {
	if e := o.first(oracleRight(path)); e != api.OK {
		return e
	}
	if o.named(path) == nil {
		return api.ErrNone
	}
	o.change(dirOf(path), func(names map[string]*oracleBody) { delete(names, path) })
	return api.OK
}

func (o *oracle) sync(path string) api.Errno {
	if e := o.first(oracleRight(path)); e != api.OK {
		return e
	}
	named := o.named(path)
	if named == nil {
		return api.ErrNone
	}
	named.keep(len(named.rest))
	return api.OK
}

// keep so many bytes of the rest; what is behind them is lost.
func (b *oracleBody) keep(n int) { b.kept, b.rest = slices.Concat(b.kept, b.rest[:n]), nil }

func (o *oracle) syncDir(dir string) api.Errno {
	if e := o.first(rightDir.MatchString(dir) && !dots.MatchString(dir)); e != api.OK {
		return e
	}
	if states := o.dirs[dir]; states != nil {
		o.dirs[dir] = states[len(states)-1:]
	}
	return api.OK
}

func (o *oracle) fail(calls int, once bool) {
	left := big.NewInt(int64(max(calls, 0)))
	o.fails = func() bool {
		sign := left.Sign()
		left = new(big.Int).Sub(left, big.NewInt(1))
		return sign == 0 || sign < 0 && !once
	}
}

func (o *oracle) crash(keep ...int) {
	o.fails = never
	at := -1
	of := func(n int) int {
		if at++; at >= len(keep) {
			return 0
		}
		// Mod of big numbers is never below 0.
		return int(new(big.Int).Mod(big.NewInt(int64(keep[at])), big.NewInt(int64(n+1))).Int64())
	}
	for _, b := range o.bodies {
		if len(b.rest) > 0 {
			b.keep(of(len(b.rest)))
		}
	}
	for _, dir := range slices.Sorted(maps.Keys(o.dirs)) {
		if states := o.dirs[dir]; len(states) > 1 {
			n := of(len(states) - 1)
			o.dirs[dir] = states[n : n+1]
		}
	}
}

// files of a disk: all that is seen of it.
func files(t *testing.T, d *vfs.Disk, dirs ...string) map[string]string {
	t.Helper()
	seen := map[string]string{}
	used := 0
	for _, dir := range dirs {
		list := d.List(dir)
		if !slices.IsSorted(list) {
			t.Errorf("List(%q) doesn't rise: %q", dir, list)
		}
		for _, path := range list {
			b, e := d.Read(path)
			if _, twice := seen[path]; twice || e != api.OK || dirOf(path) != dir || !vfs.Right(path) {
				t.Errorf("List(%q) has %q twice, or it isn't there: %v, %v", dir, path, twice, e)
			}
			seen[path] = string(b)
			used += len(b)
		}
	}
	if d.Used() != used {
		t.Errorf("Used: %d, not %d", d.Used(), used)
	}
	return seen
}

func (o *oracle) files() map[string]string {
	seen := map[string]string{}
	for dir := range o.dirs {
		for path, b := range o.now(dir) {
			seen[path] = string(b.kept) + string(b.rest)
		}
	}
	return seen
}

// The paths and the directories that the calls that are made up have.
var (
	somePaths = []string{"a", "b", "c", "g/a", "g/b", "g/c", "g", "g1/a", "g1/b", "b/a", "A", "Z/z", "...", "-", "", ".", "g/", "/a", "g/a/b", "g/..", "ä", "a b"}
	someDirs  = []string{"", "g", "g1", "b", "Z", "a", ".", "g/a", "/", "..", "none"}
	someKeeps = []int{0, 1, 2, 3, 4, 5, 7, 11, 100, -1, -2, -3, -7, 1 << 30, math.MaxInt, math.MaxInt - 1, math.MinInt, math.MinInt + 1}
)

// trial does a call that pick chooses on a disk and on its oracle, and holds
// them against one another.
type trial struct {
	d    *vfs.Disk
	o    *oracle
	pick func(n int) int
	made int
}

func newTrial(room int, pick func(n int) int) *trial {
	return &trial{vfs.New(room), newOracle(room), pick, 0}
}

// path is mostly one of the first few, so that calls meet.
func (x *trial) path() string {
	if x.pick(8) == 0 {
		return somePaths[x.pick(len(somePaths))]
	}
	return somePaths[x.pick(6)]
}

func (x *trial) dir() string {
	if x.pick(4) == 0 {
		return someDirs[x.pick(len(someDirs))]
	}
	return someDirs[x.pick(2)]
}

func (x *trial) bytes() []byte {
	b := make([]byte, x.pick(6))
	for i := range b {
		b[i] = byte('a' + x.made%26)
		x.made++
	}
	return b
}

func (x *trial) keeps() []int {
	var keep []int
	for range x.pick(12) {
		keep = append(keep, someKeeps[x.pick(len(someKeeps))])
	}
	return keep
}

// call is one of all; it answers what the disk and the oracle do.
func (x *trial) call() (name string, got, want api.Errno) {
	d, o := x.d, x.o
	switch x.pick(20) {
	case 0, 1, 2, 3:
		path, b := x.path(), x.bytes()
		return "Write " + path, d.Write(path, b), o.write(path, b)
	case 4, 5, 6:
		path, b := x.path(), x.bytes()
		return "Append " + path, d.Append(path, b), o.append(path, b)
	case 7, 8, 9, 10:
		from, to := x.path(), x.path()
		return "Rename " + from + " " + to, d.Rename(from, to), o.rename(from, to)
	case 11, 12:
		path := x.path()
		return "Remove " + path, d.Remove(path), o.remove(path)
	case 13, 14:
		path := x.path()
		return "Sync " + path, d.Sync(path), o.sync(path)
	case 15, 16, 17:
		dir := x.dir()
		return "SyncDir " + dir, d.SyncDir(dir), o.syncDir(dir)
	case 18:
		calls, once := x.pick(7)-1, x.pick(3) > 0
		d.Fail(calls, once)
		o.fail(calls, once)
		return "Fail", 0, 0
	default:
		keep := x.keeps()
		given := slices.Clone(keep)
		d.Crash(keep...)
		o.crash(given...)
		if !slices.Equal(keep, given) {
			return "Crash changes its numbers", 1, 0
		}
		return "Crash", 0, 0
	}
}

// run so many calls; false behind the first that isn't as the oracle's.
func (x *trial) run(t *testing.T, calls int) bool {
	t.Helper()
	var told []string
	for range calls {
		name, got, want := x.call()
		told = append(told, name)
		if got != want {
			t.Errorf("%v, not %v, behind %q", got, want, told)
			return false
		}
		if seen, said := files(t, x.d, someDirs...), x.o.files(); !maps.Equal(seen, said) {
			t.Errorf("%q, not %q, behind %q", seen, said, told)
			return false
		}
		for _, path := range somePaths {
			b, e := x.d.Read(path)
			if named := x.o.named(path); (named == nil) != (e == api.ErrNone) || e != api.ErrNone && e != api.OK || e != api.OK && b != nil {
				t.Errorf("Read(%q): %q, %v behind %q", path, b, e, told)
				return false
			}
		}
	}
	return true
}

func TestRandomCalls(t *testing.T) { // P6.1, P6.2, P6.3
	trials := 4000
	if testing.Short() {
		trials = 400
	}
	for seed := range trials {
		r := rand.New(rand.NewSource(int64(seed)))
		room := []int{1 << 20, 1 << 20, 1 << 20, 40, 30, 20, 12, 5, 0, -1}[seed%10]
		if !newTrial(room, r.Intn).run(t, 60) {
			t.Fatalf("seed %d, room %d", seed, room)
		}
	}
}

func FuzzCalls(f *testing.F) {
	f.Add(30, []byte("one call behind the other, and a crash"))
	f.Add(-1, []byte{0, 1, 0, 3, 19, 4, 4, 4})
	f.Fuzz(func(t *testing.T, room int, choices []byte) {
		pick := func(n int) int {
			if len(choices) == 0 {
				return 0
			}
			c := int(choices[0])
			choices = choices[1:]
			return c % n
		}
		newTrial(room, pick).run(t, min(len(choices), 300))
	})
}
