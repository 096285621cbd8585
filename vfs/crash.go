package vfs

import (
	"maps"
	"slices"
)

// failure that a disk was told.
type failure struct {
	told  bool
	ahead int // calls that are as ever
	once  bool
}

// strikes counts a call; does it fail?
func (f *failure) strikes() bool {
	if !f.told {
		return false
	}
	if f.ahead > 0 {
		f.ahead--
		return false
	}
	f.told = !f.once
	return true
}

// Fail behind so many calls.
func (d *Disk) Fail(calls int, once bool) {
	if d == nil {
		return
	}
	d.failure = failure{told: true, ahead: calls, once: once}
}

// Crash: what isn't kept is lost, but for some of it.
func (d *Disk) Crash(keep ...int) {
	if d == nil {
		return
	}
	next := func(most int) int {
		if len(keep) == 0 {
			return 0
		}
		number := keep[0]
		keep = keep[1:]
		return rest(number, most+1)
	}
	for _, number := range slices.Sorted(maps.Keys(d.loose)) {
		loose := d.loose[number]
		loose.stay(next(loose.size() - loose.kept))
	}
	clear(d.loose)
	for _, dir := range slices.Sorted(maps.Keys(d.changes)) {
		changes := d.changes[dir]
		d.keep(changes[:next(len(changes))])
	}
	clear(d.changes)
	d.names = maps.Clone(d.kept)
	d.failure = failure{}
}

// rest of a number by another one above 0: from 0 on, also of one below 0.
func rest(number, by int) int {
	left := number % by
	if left < 0 {
		left += by
	}
	return left
}
