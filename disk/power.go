package disk

import (
	"maps"

	"souterrain/api"
)

// later is how many things later something is to happen.
type later int

// never is of what is not to happen.
const never later = -1

// set has it happen so many things later, if they may be so many.
func (l *later) set(after int) {
	if after >= 0 {
		*l = later(after)
	}
}

// sooner has it happen one thing sooner, if it is to happen, and not next.
func (l *later) sooner() {
	if *l > 0 {
		*l--
	}
}

// Fail has one thing go wrong, so many things later.
func (d *Disk) Fail(after int) { d.fail.set(after) }

// Cut has power fail, so many things later.
func (d *Disk) Cut(after int) { d.cut.set(after) }

// Down is whether power has failed.
func (d *Disk) Down() bool { return d.down }

// Done is how many things were done.
func (d *Disk) Done() int { return d.done }

// thing does what has no other error, if nothing goes wrong with it.
func (d *Disk) thing(do func()) api.Errno {
	if d.down {
		return api.ErrDown
	}
	cuts, fails := d.cut == 0, d.fail == 0
	d.cut.sooner()
	d.fail.sooner()
	switch {
	case cuts:
		d.cut = never
		d.down = true
		return api.ErrDown
	case fails:
		d.fail = never
		return api.ErrIO
	}
	do()
	d.done++
	return api.OK
}

// Boot is that power fails, and is there again. Of names those are there that are kept, with the first changes that are pending, and of each file the bytes that are kept, with some of the others: all that is kept then.
func (d *Disk) Boot(dirs int, bytes []int) {
	d.keepNames(min(max(dirs, 0), len(d.pending)))
	d.names = maps.Clone(d.kept)
	d.used = 0
	for _, f := range d.names {
		f.lose(bytes)
		d.used += len(f.bytes)
	}
	d.fail, d.cut, d.down = never, never, false
}
