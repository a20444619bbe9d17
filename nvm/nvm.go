// Package nvm is memory that outlives its power: what is stored is read at once, but lasts only when its line was flushed and a fence came behind, or by chance.
package nvm

import (
	"slices"

	"reliquary/api"
)

const (
	fewest = 8
	most   = 65536
)

// noFuse is any number below 0: a fuse that is never burnt down.
const noFuse = -1

// line is what reaches the lasting memory together.
type line [api.Line]uint64

// flushed is a line on its way, as it stood when it was flushed.
type flushed struct {
	at    int
	words line
}

// Device is a memory of words, eight to a line.
type Device struct {
	now   []line    // what is read
	lasts []line    // what a loss of power leaves
	sent  []flushed // what is on its way, each line at most once
	place []int     // for each line: where it stands in sent, plus 1; 0 if it is not on its way
	steps int
	fuse  int // how many more steps go on; below 0: no fuse
	dead  bool
}

// Lost is what a call panics with that finds the power gone.
type Lost struct{}

// Wrong is what a call panics with that names no word of the device.
type Wrong struct{ Word int }

// New makes a device of so many words, all of them 0: ErrArg, unless words is a multiple of 8 from 8 to 65,536.
func New(words int) (*Device, api.Errno) {
	if words < fewest || words > most || words%api.Line != 0 {
		return nil, api.ErrArg
	}
	lines := words / api.Line
	return &Device{
		now:   make([]line, lines),
		lasts: make([]line, lines),
		place: make([]int, lines),
		fuse:  noFuse,
	}, api.OK
}

// Words is how many words the device has.
func (d *Device) Words() int {
	return len(d.now) * api.Line
}

// Load tells the word i as last stored. It panics with Wrong or Lost, and burns no fuse.
func (d *Device) Load(i int) uint64 {
	d.mustHave(i)
	d.mustLive()
	return d.now[i/api.Line][i%api.Line]
}

// Store stores v as the word i. It panics with Wrong or Lost.
func (d *Device) Store(i int, v uint64) {
	d.mustHave(i)
	d.step()
	d.now[i/api.Line][i%api.Line] = v
}

// Flush sends the line of word i on its way as it stands now. It panics with Wrong or Lost.
func (d *Device) Flush(i int) {
	d.mustHave(i)
	d.step()
	d.send(i / api.Line)
}

// Fence makes last what is on its way. It panics with Lost.
func (d *Device) Fence() {
	d.step()
	for _, f := range d.sent {
		d.lasts[f.at] = f.words
	}
	d.forget()
}

// Evict makes the line of word i last as it stands now, power or none: ErrArg, if there is no word i.
func (d *Device) Evict(i int) api.Errno {
	if !d.has(i) {
		return api.ErrArg
	}
	at := i / api.Line
	d.lasts[at] = d.now[at]
	if d.place[at] > 0 {
		// An older flush must not take back what lasts from here on.
		d.send(at)
	}
	return api.OK
}

// Waiting tells the words whose content is not what lasts, rising.
func (d *Device) Waiting() []int {
	var l []int
	for at := range d.now {
		if d.now[at] == d.lasts[at] {
			continue
		}
		for k := range api.Line {
			if d.now[at][k] != d.lasts[at][k] {
				l = append(l, at*api.Line+k)
			}
		}
	}
	return l
}

// Steps is how many Stores, Flushes and Fences went well.
func (d *Device) Steps() int {
	return d.steps
}

// Fuse lets k more Stores, Flushes and Fences go on; the next one finds the power gone. With k below 0 there is no fuse.
func (d *Device) Fuse(k int) {
	d.fuse = k
}

// Dead tells whether the power is gone.
func (d *Device) Dead() bool {
	return d.dead
}

// Power brings the power back: of the words of Waiting those in l keep their content (with flip: those not in l), the others are what lasted.
func (d *Device) Power(flip bool, l []int) {
	named := make([]bool, d.Words())
	for _, i := range l {
		if d.has(i) {
			named[i] = true
		}
	}
	for _, i := range d.Waiting() {
		if named[i] == flip {
			d.now[i/api.Line][i%api.Line] = d.lasts[i/api.Line][i%api.Line]
		}
	}
	copy(d.lasts, d.now)
	d.forget()
	d.dead = false
	d.fuse = noFuse
}

// Copy makes another device that is the same: what is on its way, the fuse and the steps too.
func (d *Device) Copy() *Device {
	c := *d
	c.now = slices.Clone(d.now)
	c.lasts = slices.Clone(d.lasts)
	c.sent = slices.Clone(d.sent)
	c.place = slices.Clone(d.place)
	return &c
}

func (d *Device) has(i int) bool {
	return i >= 0 && i < d.Words()
}

func (d *Device) mustHave(i int) {
	if !d.has(i) {
		panic(Wrong{Word: i})
	}
}

func (d *Device) mustLive() {
	if d.dead {
		panic(Lost{})
	}
}

// step stands ahead of all that a Store, Flush or Fence does, so that one that finds the power gone has done nothing.
func (d *Device) step() {
	if d.fuse == 0 {
		d.dead = true
	}
	d.mustLive()
	if d.fuse > 0 {
		d.fuse--
	}
	d.steps++
}

// send puts a line on its way, in the place of an earlier flush of it: what is on its way is never more than the device, however often it is flushed.
func (d *Device) send(at int) {
	if p := d.place[at]; p > 0 {
		d.sent[p-1].words = d.now[at]
		return
	}
	d.sent = append(d.sent, flushed{at: at, words: d.now[at]})
	d.place[at] = len(d.sent)
}

// forget leaves nothing on its way.
func (d *Device) forget() {
	for _, f := range d.sent {
		d.place[f.at] = 0
	}
	d.sent = d.sent[:0]
}
