package vfs

import (
	"bytes"
	"strings"
)

// body of a file. What is named now and what is kept of that share it, so that
// bytes that are appended, and synced, are its bytes wherever it is named.
type body struct {
	number int // rises in the order in which bodies are made
	bytes  []byte
	kept   int // how many of its bytes, from the front on
}

// size of a body; 0, if there is none.
func (b *body) size() int {
	if b == nil {
		return 0
	}
	return len(b.bytes)
}

func (d *Disk) newBody(b []byte) *body {
	made := &body{number: d.made}
	d.made++
	d.extend(made, b)
	return made
}

// extend a body. One without bytes is never loose: all that it has is kept.
func (d *Disk) extend(named *body, b []byte) {
	if len(b) == 0 {
		return
	}
	named.bytes = append(named.bytes, b...)
	d.loose[named.number] = named
}

// change of a directory's names, both of it at once: from names nothing, then to
// names the body. Where there is none, from and to are one path.
type change struct {
	from, to string
	body     *body
}

// apply a change to names; gone is the body that to has named.
func (c change) apply(names map[string]*body) (gone *body) {
	gone = names[c.to]
	delete(names, c.from)
	if c.body != nil {
		names[c.to] = c.body
	}
	return gone
}

// change names, for now. The paths are copied: they may be parts of greater
// texts, which must not be kept.
func (d *Disk) change(from, to string, b *body) {
	c := change{strings.Clone(from), strings.Clone(to), b}
	c.apply(d.names)
	dir := directory(c.from)
	d.changes[dir] = append(d.changes[dir], c)
}

// keep the first changes of a directory.
func (d *Disk) keep(changes []change) {
	for _, c := range changes {
		if gone := c.apply(d.kept); gone != nil {
			// Nobody will read it any more. If it is loose it stays so, without
			// its bytes: a crash has a number for it.
			gone.bytes, gone.kept = nil, 0
		}
	}
}

// stay is what a crash leaves of a body's bytes: so many behind those that are
// kept.
func (b *body) stay(more int) {
	b.kept += more
	b.bytes = bytes.Clone(b.bytes[:b.kept])
}
