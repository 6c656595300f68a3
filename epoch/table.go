package epoch

import (
	"sync"

	"heddle/api"
	"heddle/machine"
)

// parts is how many there are of a table: with as many as workers may be, few of them wait for one another.
const parts = api.MaxWorkers

// users are the smallest position that reads a key, and the smallest one that writes it. No other is needed: whoever loses to any loses to that one. And whichever worker comes first, the smallest stays the smallest.
type users struct {
	reader, writer int
}

// common is what all parts of a table have in common.
type common struct {
	nobody int // the place of a position where there is none: greater than all of them
}

// unused is how a key stands in the table that nobody reads or writes.
func (c common) unused() users {
	return users{reader: c.nobody, writer: c.nobody}
}

// part is a part of a table, locked by itself.
type part struct {
	sync.Mutex
	common
	keys map[int]users
}

// read enters a position that reads a key.
func (p *part) read(key, position int) {
	p.Lock()
	defer p.Unlock()
	u := p.at(key)
	u.reader = min(u.reader, position)
	p.keys[key] = u
}

// write enters a position that writes a key.
func (p *part) write(key, position int) {
	p.Lock()
	defer p.Unlock()
	u := p.at(key)
	u.writer = min(u.writer, position)
	p.keys[key] = u
}

// users tells who reads and who writes a key.
func (p *part) users(key int) users {
	p.Lock()
	defer p.Unlock()
	return p.at(key)
}

// at is users for one who holds the lock.
func (p *part) at(key int) users {
	if u, ok := p.keys[key]; ok {
		return u
	}
	return p.unused()
}

// table is who reads and who writes which key in an epoch.
type table [parts]part

func newTable(positions int) *table {
	t := new(table)
	for i := range t {
		t[i].common = common{nobody: positions}
		t[i].keys = map[int]users{}
	}
	return t
}

// part is the part that has a key.
func (t *table) part(key int) *part {
	return &t[uint(key)%parts]
}

// enter enters what a position reads and writes.
func (t *table) enter(position int, run machine.Run) {
	for _, key := range run.Reads {
		t.part(key).read(key, position)
	}
	for key := range run.Writes {
		t.part(key).write(key, position)
	}
}

// verdict is how a position stands against the smaller ones, whatever becomes of those.
type verdict struct {
	writesWritten bool // a smaller one writes a key that it writes
	readsWritten  bool // a smaller one writes a key that it reads
	writesRead    bool // a smaller one reads a key that it writes
}

func (v verdict) loses() bool {
	return v.writesWritten || v.readsWritten && v.writesRead
}

// judge holds a position against the table, in which all positions must be.
func (t *table) judge(position int, run machine.Run) verdict {
	var v verdict
	for _, key := range run.Reads {
		if t.part(key).users(key).writer < position {
			v.readsWritten = true
		}
	}
	for key := range run.Writes {
		u := t.part(key).users(key)
		v.writesWritten = v.writesWritten || u.writer < position
		v.writesRead = v.writesRead || u.reader < position
	}
	return v
}
