package log

import (
	"souterrain/api"
	"souterrain/hint"
	"souterrain/man"
	"souterrain/name"
	"souterrain/seg"
)

// Roll has a new segment be the last one. The one that was is kept ahead of that: so what was added stands in order, whatever of the new one is there when power has failed.
func (l *Log) Roll() api.Errno {
	if err := l.Sync(); err != api.OK {
		return err
	}
	n := l.number()
	if n >= api.MaxSeg || len(l.man.Segs) >= api.MaxSegs {
		return api.ErrFull
	}
	// No number is taken twice, even if nothing comes of it: its file may be left there, or its name be in a manifest that was not kept.
	l.man.Next = n + 1
	if err := seg.Make(l.disk, n); err != api.OK {
		return err
	}
	if err := l.save(append(l.Segs(), n)); err != api.OK {
		return err
	}
	if l.last != noLast {
		l.writeHints(l.last)
	}
	l.last = n
	return api.OK
}

// number is the least one that no segment has, nor had, be it the manifest's or nobody's.
func (l *Log) number() int {
	n := l.man.Next
	for _, there := range name.Segments(l.disk.List()) {
		n = max(n, there+1)
	}
	return n
}

// save has these be the segments, if the disk has a manifest that says so.
func (l *Log) save(segs []int) api.Errno {
	m := api.Man{Segs: segs, Next: l.man.Next}
	err := man.Save(l.disk, m)
	if err == api.OK {
		l.man = m
	}
	return err
}

// writeHints has a segment have a file of its hints, so far as the disk does that. Whoever finds none, or one that is not whole, reads the segment.
func (l *Log) writeHints(n int) {
	appendHints := func(file string) api.Errno {
		found, _, _ := seg.All(l.disk, n)
		return l.disk.Append(file, hint.Put(hint.Of(found), seg.Size(l.disk, n)))
	}
	attempt(name.Of(api.Hints, n), l.disk.Create, appendHints, l.disk.Sync)
}

// attempt does steps to a file, up to one that has an error. It tells nobody of that: these are steps that do not matter.
func attempt(file string, steps ...func(string) api.Errno) {
	for _, do := range steps {
		if do(file) != api.OK {
			return
		}
	}
}
