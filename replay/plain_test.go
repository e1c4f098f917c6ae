package replay_test

import (
	"fmt"
	"maps"
	"slices"
	"sort"
	"testing"

	"souterrain/api"
	"souterrain/book"
	"souterrain/disk"
	"souterrain/keys"
	"souterrain/log"
	"souterrain/replay"
	"souterrain/seg"
)

// plainFound are the hints of what a segment has, by the document's words.
func plainFound(d *disk.Disk, n int) []api.Hint {
	found, _, e := seg.All(d, n)
	if e != api.OK {
		return nil
	}
	var l []api.Hint
	for i := len(found) - 1; i >= 0; i-- {
		f := found[i]
		there := slices.ContainsFunc(l, func(h api.Hint) bool { return h.Key == f.R.Key })
		if f.R.Kind != api.Piece && !there {
			l = append(l, api.Hint{Kind: f.R.Kind, Key: f.R.Key, At: f.At, Size: f.Size})
		}
	}
	sort.Slice(l, func(i, j int) bool { return l[i].Key < l[j].Key })
	return l
}

// plainHints are a segment's.
func plainHints(d *disk.Disk, l *log.Log, n int) ([]api.Hint, bool) {
	if h, is := l.Hints(n); is {
		return h, true
	}
	return plainFound(d, n), false
}

// plainLocs are a place's frames.
func plainLocs(l *log.Log, p api.Place) ([]api.Loc, api.Errno) {
	frames := []api.Loc{frameOf(p)}
	if p.Hint.Kind == api.Root {
		r, e := l.Get(p.Seg, p.Hint.At)
		switch {
		case e != api.OK:
			return nil, e
		case r.Kind != api.Root, r.Key != p.Hint.Key:
			return nil, api.ErrCorrupt
		}
		for _, x := range r.Locs {
			x.N += 17
			frames = append(frames, x)
		}
	}
	return frames, api.OK
}

// plainAll is where all keys stand, by lists of hints that are put over one another, and how much of each of Segs is alive.
func plainAll(l *log.Log, d *disk.Disk, of func(n int) []api.Hint) (map[string]api.Place, []api.Use) {
	places := map[string]api.Place{}
	for _, n := range l.Segs() {
		for _, h := range of(n) {
			if delete(places, h.Key); h.Kind != api.Tomb {
				places[h.Key] = api.Place{Seg: n, Hint: h}
			}
		}
	}
	live := map[int]int{}
	for _, p := range places {
		frames, e := plainLocs(l, p)
		if e != api.OK {
			frames = []api.Loc{frameOf(p)}
		}
		for _, f := range frames {
			live[f.Seg] += f.N
		}
	}
	var uses []api.Use
	for _, n := range l.Segs() {
		size, _ := d.Size(segFile(n))
		uses = append(uses, api.Use{Seg: n, All: int64(max(size, live[n])), Live: int64(live[n])})
	}
	return places, uses
}

// expect expects a directory, and a book, to have just that.
func expect(t *testing.T, what string, dir *keys.Dir, uses *book.Book, places map[string]api.Place, want []api.Use) {
	t.Helper()
	if dir == nil || uses == nil {
		t.Fatalf("%s: %v, %v", what, dir, uses)
	}
	all := slices.Sorted(maps.Keys(places))
	if l := dir.List(); !slices.Equal(l, all) || dir.Many() != len(all) {
		t.Errorf("%s: keys %s, %d; want %s", what, brief(l), dir.Many(), brief(all))
	}
	for key, p := range places {
		if got, is := dir.Get(key); got != p || !is {
			t.Errorf("%s: %s, %t; want %s", what, brief(got), is, brief(p))
		}
	}
	if l := uses.All(); !slices.Equal(l, want) {
		t.Errorf("%s: uses %s; want %s", what, brief(l), brief(want))
	}
	sum, live := uses.Sum()
	for _, u := range want {
		sum, live = sum-u.All, live-u.Live
		if got, is := uses.Of(u.Seg); got != u || !is {
			t.Errorf("%s: of %d: %v, %t; want %v", what, u.Seg, got, is, u)
		}
	}
	if sum != 0 || live != 0 {
		t.Errorf("%s: sums %d and %d too much", what, sum, live)
	}
}

// replayed expects All to tell what a plain one does, and is that. Nothing is done on the disk, nor to the log.
func replayed(t *testing.T, what string, d *disk.Disk, l *log.Log) (*keys.Dir, *book.Book) {
	t.Helper()
	done, segs := d.Done(), l.Segs()
	last, isLast := l.Last()
	dir, uses := replay.All(d, l)
	places, want := plainAll(l, d, func(n int) []api.Hint {
		h, _ := plainHints(d, l, n)
		return h
	})
	expect(t, what, dir, uses, places, want)
	if n, is := l.Last(); d.Done() != done || !slices.Equal(l.Segs(), segs) || n != last || is != isLast {
		t.Errorf("%s: the log has changed", what)
	}
	return dir, uses
}

// run is a log to which all happens that may.
type run struct {
	c      chance
	limit  int
	d      *disk.Disk
	l      *log.Log
	parts  []api.Loc   // pieces that no root has yet
	places []api.Place // where something was added
	turned bool        // has a bit of a segment turned?
	count  int
}

func newRun(t *testing.T, seed int) *run {
	c := chance(seed)
	x := &run{c: c, limit: 64 + c.below(400), d: disk.New([]int{600, 3000, 1 << 20}[c.below(3)])}
	x.l = open(t, x.d, x.limit)
	return x
}

// record is one of any kind. Keys are few, so that they come again.
func (x *run) record() api.Rec {
	x.count++
	key := string([]byte{byte('a' + x.c.below(6))})
	switch x.c.below(9) {
	case 0, 1:
		return piece(int64(x.count), 0, 1+x.c.below(40))
	case 2, 3:
		return tomb(key)
	case 4, 5, 6:
		return inline(key, fmt.Sprint(x.count))
	}
	parts := x.parts
	x.parts = nil
	for len(parts) == 0 || x.c.below(3) == 0 {
		parts = append(parts, api.Loc{Seg: x.c.below(9), At: x.c.below(100), N: 1 + x.c.below(60)})
	}
	return root(key, parts...)
}

func (x *run) add() {
	r := x.record()
	n, at, size, e := x.l.Add(r)
	if e != api.OK {
		return
	}
	if r.Kind == api.Piece {
		x.parts = append(x.parts, api.Loc{Seg: n, At: at, N: len(r.B)})
	}
	x.places = append(x.places, api.Place{Seg: n, Hint: api.Hint{Kind: r.Kind, Key: r.Key, At: at, Size: size}})
}

// number is that of a segment, mostly.
func (x *run) number() int {
	if segs := x.l.Segs(); len(segs) > 0 && x.c.below(8) > 0 {
		return segs[x.c.below(len(segs))]
	}
	return x.c.below(12) - 1
}

func (x *run) drop() {
	var segs []int
	for _, n := range x.l.Segs() {
		if last, _ := x.l.Last(); n != last && x.c.below(4) == 0 {
			segs = append(segs, n)
		}
	}
	x.l.Drop(segs)
}

// spoil has something go wrong with a file.
func (x *run) spoil() {
	n, at := x.number(), x.c.below(1000)
	switch x.c.below(8) {
	case 0, 1:
		x.d.Flip(hintFile(n), at, 1)
	case 2:
		x.d.Remove(hintFile(n))
	case 3:
		x.d.Append(hintFile(n), []byte{0})
	case 4:
		x.d.Append(segFile(n), []byte("\x00"))
	case 5:
		x.turned = x.d.Flip(segFile(n), at, 1) || x.turned
	case 6:
		x.d.Fail(x.c.below(14))
	case 7:
		x.d.Cut(x.c.below(14))
	}
}

// boot is that power fails, and is there again; mostly a log is opened then.
func (x *run) boot(t *testing.T) {
	var list []int
	for range x.c.below(5) {
		list = append(list, x.c.below(200))
	}
	x.d.Boot(x.c.below(15), list)
	if x.c.below(6) > 0 {
		x.l = open(t, x.d, x.limit)
	}
}

func (x *run) step(t *testing.T) {
	switch x.c.below(20) {
	case 0:
		x.l.Roll()
	case 1:
		x.l.Sync()
	case 2:
		x.drop()
	case 3:
		x.l.Clean()
	case 4, 5:
		x.spoil()
	case 6:
		if x.d.Down() || x.c.below(6) == 0 {
			x.boot(t)
		}
	case 7:
		if l, e := log.Open(x.d, x.limit); e == api.OK && x.c.below(4) == 0 {
			x.l = l
		}
	default:
		x.add()
	}
}

// asked is a place: of a record, mostly, perhaps with something wrong.
func (x *run) asked() api.Place {
	p := rooted(x.number(), "a", x.c.below(100), 9)
	if len(x.places) > 0 && x.c.below(6) > 0 {
		p = x.places[x.c.below(len(x.places))]
	}
	switch x.c.below(12) {
	case 0:
		p.Hint.Kind = x.c.below(6)
	case 1:
		p.Hint.Key += "a"
	case 2:
		p.Hint.At += x.c.below(3) - 1
	case 3:
		p.Seg = x.number()
	}
	return p
}

// expect expects all answers to be as a plain one's are; and, if nothing of a segment has turned, keys to stand where their last records in Segs do, be there hints or not.
func (x *run) expect(t *testing.T) {
	t.Helper()
	dir, uses := replayed(t, "run", x.d, x.l)
	n, p := x.number(), x.asked()
	h, is := replay.Hints(x.d, x.l, n)
	if want, wantIs := plainHints(x.d, x.l, n); is != wantIs || !slices.Equal(h, want) {
		t.Errorf("hints of %d: %s, %t; want %s, %t", n, brief(h), is, brief(want), wantIs)
	}
	frames, e := replay.Locs(x.l, p)
	if want, wantE := plainLocs(x.l, p); e != wantE || !slices.Equal(frames, want) {
		t.Errorf("locs of %s: %s, error %d; want %s, %d", brief(p), brief(frames), e, brief(want), wantE)
	}
	if !x.turned {
		places, want := plainAll(x.l, x.d, func(n int) []api.Hint { return plainFound(x.d, n) })
		expect(t, "of no hints", dir, uses, places, want)
	}
}

// P16.1 and P16.2: many runs of all that may happen to a log, held against plain answers.
func TestManyRuns(t *testing.T) {
	t.Parallel()
	most, turned := 0, 0
	for seed := range 300 {
		x := newRun(t, seed)
		for range 120 {
			x.step(t)
			if x.expect(t); t.Failed() {
				t.Fatal("run ", seed)
			}
		}
		most = max(most, len(x.places))
		if x.turned {
			turned++
		}
	}
	if most < 50 || turned < 50 || turned > 250 {
		t.Error("at most", most, "records were added, in", turned, "runs a segment has turned")
	}
}
