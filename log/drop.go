package log

import (
	"iter"
	"slices"

	"souterrain/api"
	"souterrain/name"
)

// Drop has segments be there no more. Their files go when there is a manifest without them: up to then they are its own.
func (l *Log) Drop(segs []int) api.Errno {
	for _, n := range segs {
		if !l.has(n) || n == l.last {
			return api.ErrArg
		}
	}
	dropped := func(n int) bool { return slices.Contains(segs, n) }
	were := l.man.Segs
	if err := l.save(slices.DeleteFunc(l.Segs(), dropped)); err != api.OK {
		return err
	}
	for _, n := range were {
		if dropped(n) {
			l.remove(name.Of(api.Segs, n))
			l.remove(name.Of(api.Hints, n))
		}
	}
	return api.OK
}

// Clean has files be there no more that are nobody's.
func (l *Log) Clean() {
	for file := range l.nobodys() {
		l.remove(file)
	}
}

// remove removes a file, if the disk does that. One that is left is nobody's, so that Clean finds it.
func (l *Log) remove(file string) { attempt(file, l.disk.Remove) }

// nobodys tells each file that was of a store, and is of none of its segments any more, in the order of names.
func (l *Log) nobodys() iter.Seq[string] {
	return func(yield func(string) bool) {
		for _, file := range l.disk.List() {
			if l.isNobodys(file) && !yield(file) {
				return
			}
		}
	}
}

// isNobodys is whether a file is a manifest that was not written to its end, or of a segment that there is not. What has another name is none of ours to take away.
func (l *Log) isNobodys(file string) bool {
	kind, n, _ := name.Parse(file)
	switch kind {
	case api.Temp:
		return true
	case api.Segs, api.Hints:
		return !l.has(n)
	}
	return false
}
