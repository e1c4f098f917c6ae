package log_test

import (
	"bytes"
	"fmt"
	"slices"
	"strconv"
	"testing"

	"souterrain/api"
	"souterrain/disk"
	"souterrain/frame"
	"souterrain/hint"
	"souterrain/log"
	"souterrain/man"
	"souterrain/rec"
	"souterrain/seg"
)

// plain is a log by the document's words, thing by thing, on a disk of its own.
type plain struct {
	d     *disk.Disk
	limit int
	segs  []int
	next  int
	last  int // -1: none
}

// plainOpen is one, or an error.
func plainOpen(d *disk.Disk, limit int) (*plain, api.Errno) {
	p := &plain{d: d, limit: limit, next: 1, last: -1}
	if limit < 64 || limit > 1073741824 {
		return nil, api.ErrArg
	}
	if d.Down() {
		return nil, api.ErrDown
	}
	if !slices.Contains(d.List(), "m") {
		return p, api.OK
	}
	size, _ := d.Size("m")
	b, _ := d.Read("m", 0, size)
	m, is := man.Get(b)
	if !is {
		return nil, api.ErrCorrupt
	}
	p.segs, p.next = m.Segs, m.Next
	return p, api.OK
}

// plainNumber is the number of a file's name, behind a letter; -1, if it has none.
func plainNumber(file string, letter byte) int {
	if len(file) != 9 || file[0] != letter {
		return -1
	}
	for i := 1; i < 9; i++ {
		if !bytes.Contains([]byte("0123456789"), []byte{file[i]}) {
			return -1
		}
	}
	n, _ := strconv.Atoi(file[1:])
	return n
}

// turn does things in order, up to one with an error, which is the error.
func (p *plain) turn(things ...thing) api.Errno {
	for _, do := range things {
		if e := do(p.d); e != api.OK {
			return e
		}
	}
	return api.OK
}

func (p *plain) save(segs []int) api.Errno {
	if slices.Contains(p.d.List(), "t") {
		if e := p.d.Remove("t"); e != api.OK {
			return e
		}
	}
	e := p.turn(saves(p.next, segs...)...)
	if e == api.OK {
		p.segs = segs
	}
	return e
}

func (p *plain) sync() api.Errno {
	if p.last < 0 {
		return api.OK
	}
	return p.d.Sync(segFile(p.last))
}

func (p *plain) roll() api.Errno {
	if e := p.sync(); e != api.OK {
		return e
	}
	greatest := -1
	for _, file := range p.d.List() {
		greatest = max(greatest, plainNumber(file, 's'))
	}
	n := max(p.next, 1+greatest)
	if n >= 99999999 || len(p.segs) == 1000 {
		return api.ErrFull
	}
	p.next = n + 1
	things := makes(n)
	if e := things[0](p.d); e != api.OK {
		return e
	}
	if e := things[1](p.d); e != api.OK {
		p.d.Remove(segFile(n))
		return e
	}
	if e := p.save(append(slices.Clone(p.segs), n)); e != api.OK {
		return e
	}
	if p.last >= 0 {
		all, _, _ := seg.All(p.d, p.last)
		size, _ := p.d.Size(segFile(p.last))
		p.turn(written(hintFile(p.last), hint.Put(hint.Of(all), size))...)
	}
	p.last = n
	return api.OK
}

func (p *plain) add(r api.Rec) (int, int, int, api.Errno) {
	if !rec.Right(r) {
		return 0, 0, 0, api.ErrArg
	}
	b := frame.Put(rec.Put(r))
	there := 0
	if p.last >= 0 {
		there, _ = p.d.Size(segFile(p.last))
	}
	if p.last < 0 || there > 13 && there+len(b) > p.limit {
		if e := p.roll(); e != api.OK {
			return 0, 0, 0, e
		}
		there = 13
		if size, is := p.d.Size(segFile(p.last)); is {
			there = size
		}
	}
	if e := p.d.Append(segFile(p.last), b); e != api.OK {
		return 0, 0, 0, e
	}
	return p.last, there, len(b), api.OK
}

func (p *plain) get(n int, at int) (api.Rec, api.Errno) {
	if !slices.Contains(p.segs, n) {
		return api.Rec{}, api.ErrNone
	}
	return seg.Get(p.d, n, at)
}

func (p *plain) drop(segs []int) api.Errno {
	var rest []int
	for _, n := range segs {
		if n == p.last || !slices.Contains(p.segs, n) {
			return api.ErrArg
		}
	}
	were := p.segs
	for _, n := range were {
		if !slices.Contains(segs, n) {
			rest = append(rest, n)
		}
	}
	if e := p.save(rest); e != api.OK {
		return e
	}
	for _, n := range were {
		if slices.Contains(segs, n) {
			p.d.Remove(segFile(n))
			p.d.Remove(hintFile(n))
		}
	}
	return api.OK
}

func (p *plain) clean() {
	for _, file := range p.d.List() {
		s, h := plainNumber(file, 's'), plainNumber(file, 'h')
		if file == "t" || s >= 0 && !slices.Contains(p.segs, s) || h >= 0 && !slices.Contains(p.segs, h) {
			p.d.Remove(file)
		}
	}
}

func (p *plain) hints(n int) ([]api.Hint, bool) {
	size, is := p.d.Size(hintFile(n))
	if !is || !slices.Contains(p.segs, n) || p.d.Down() {
		return nil, false
	}
	b, _ := p.d.Read(hintFile(n), 0, size)
	size, _ = p.d.Size(segFile(n))
	return hint.Get(b, size)
}

// pair is a log, and a plain one, each on a disk of its own, to which the same things happen.
type pair struct {
	c     chance
	limit int
	d     *disk.Disk
	l     *log.Log
	by    *disk.Disk
	p     *plain
	all   []stands // what was added
	count int      // records so far, so that none are alike
}

func newPair(t *testing.T, seed int) *pair {
	c := chance(seed)
	most := []int{300, 1000, 3000, 10000, 100000}[c.below(5)]
	x := &pair{c: c, limit: 64 + c.below(300), d: disk.New(most), by: disk.New(most)}
	if c.below(5) == 0 {
		next := []int{0, 5, 99999990, 99999997}[c.below(4)]
		saved(t, x.d, next)
		saved(t, x.by, next)
	}
	x.open(t)
	return x
}

func (x *pair) open(t *testing.T) {
	t.Helper()
	l, e := log.Open(x.d, x.limit)
	p, want := plainOpen(x.by, x.limit)
	if e != want || (l == nil) != (p == nil) {
		t.Fatalf("open: error %d; want %d", e, want)
	}
	if l != nil {
		x.l, x.p = l, p
	}
}

// record is one of any kind, unlike all others.
func (x *pair) record() api.Rec {
	x.count++
	key := fmt.Sprintf("%05d", x.count)
	switch x.c.below(12) {
	case 0:
		return api.Rec{Kind: 1 + x.c.below(5), B: []byte("b"), Size: 1}
	case 1:
		return sized(key, 20+x.c.below(400))
	case 2, 3:
		return piece(int64(x.count), x.c.below(512), 1+x.c.below(100))
	case 4:
		return root(key, api.Loc{Seg: x.c.below(9), At: 13, N: 1 + x.c.below(9)})
	case 5, 6, 7:
		return tomb(key)
	}
	return sized(key, 20+x.c.below(60))
}

func (x *pair) add(t *testing.T) {
	t.Helper()
	r := x.record()
	n, at, size, e := x.l.Add(r)
	wantN, wantAt, wantSize, want := x.p.add(r)
	if n != wantN || at != wantAt || size != wantSize || e != want {
		t.Fatalf("add %s: %d, %d, %d, error %d; want %d, %d, %d, %d", brief(r), n, at, size, e, wantN, wantAt, wantSize, want)
	}
	if e == api.OK {
		x.all = append(x.all, stands{n, at, r})
	}
}

// number is that of a segment, mostly.
func (x *pair) number() int {
	if segs := x.p.segs; len(segs) > 0 && x.c.below(8) > 0 {
		return segs[x.c.below(len(segs))]
	}
	return x.c.below(x.p.next+3) - 1
}

func (x *pair) drop(t *testing.T) {
	t.Helper()
	var segs []int
	for range x.c.below(4) {
		segs = append(segs, x.number())
	}
	does(t, fmt.Sprint("drop of ", segs), x.l.Drop(segs), x.p.drop(segs))
}

func (x *pair) get(t *testing.T) {
	t.Helper()
	n, at := x.number(), x.c.below(100)-1
	if len(x.all) > 0 && x.c.below(4) > 0 {
		s := x.all[x.c.below(len(x.all))]
		n, at = s.seg, s.at
	}
	r, e := x.l.Get(n, at)
	if want, wantE := x.p.get(n, at); e != wantE || !bytes.Equal(rec.Put(r), rec.Put(want)) {
		t.Fatalf("get of %d, %d: %s, error %d; want %s, %d", n, at, brief(r), e, brief(want), wantE)
	}
}

func (x *pair) hints(t *testing.T) {
	t.Helper()
	n := x.number()
	h, is := x.l.Hints(n)
	if want, wantIs := x.p.hints(n); is != wantIs || !slices.Equal(h, want) {
		t.Fatalf("hints of %d: %s, %t; want %s, %t", n, brief(h), is, brief(want), wantIs)
	}
}

// both does something to both disks.
func (x *pair) both(do func(d *disk.Disk)) {
	do(x.d)
	do(x.by)
}

// wrong has something go wrong with the disks.
func (x *pair) wrong() {
	n, at := x.c.below(14), x.c.below(3000)
	switch x.c.below(8) {
	case 0, 1, 2:
		x.both(func(d *disk.Disk) { d.Fail(n) })
	case 3:
		x.both(func(d *disk.Disk) { d.Cut(n) })
	case 4:
		x.both(func(d *disk.Disk) { d.Flip(segFile(1+n), at, 1) })
	case 5:
		x.both(func(d *disk.Disk) { d.Flip(hintFile(1+n), at, 1) })
	default:
		names := strays(x.p.next)
		name := names[n%len(names)]
		x.both(func(d *disk.Disk) {
			if d.Create(name) == api.ErrThere && at < 300 {
				d.Remove(name)
			}
		})
	}
}

// strays are names of files that may be laid on a disk, or taken away.
func strays(next int) []string {
	return []string{segFile(next), segFile(next + 1), hintFile(next), hintFile(max(next-1, 0)), "t", "x", segFile(max(next-3, 0)), "s1"}
}

// boot is that power fails, and is there again, for both; mostly both logs are opened then. They may be opened without that, too.
func (x *pair) boot(t *testing.T) {
	t.Helper()
	if x.c.below(4) == 0 {
		x.open(t)
		return
	}
	dirs := x.c.below(12)
	var list []int
	for range x.c.below(4) {
		list = append(list, x.c.below(100))
	}
	x.both(func(d *disk.Disk) { d.Boot(dirs, list) })
	if x.c.below(5) > 0 {
		x.open(t)
	}
}

// step does something to both, and expects it to be alike.
func (x *pair) step(t *testing.T) {
	t.Helper()
	switch x.c.below(20) {
	case 0:
		does(t, "roll", x.l.Roll(), x.p.roll())
	case 1:
		does(t, "sync", x.l.Sync(), x.p.sync())
	case 2:
		x.drop(t)
	case 3:
		x.l.Clean()
		x.p.clean()
	case 4:
		x.get(t)
	case 5:
		x.hints(t)
	case 6, 7, 8:
		x.wrong()
	case 9:
		if x.d.Down() || x.c.below(5) == 0 {
			x.boot(t)
		}
	default:
		x.add(t)
	}
	has(t, "step", x.l, x.p.last, x.p.segs...)
	if !same(x.d, x.by) {
		t.Fatalf("the disk is\n%s; want\n%s", state(x.d), state(x.by))
	}
}

// P15.1, and rule 5: many runs of all that there is, held against a plain log, whatever goes wrong on the disk.
func TestManyRuns(t *testing.T) {
	t.Parallel()
	for seed := range 1500 {
		x := newPair(t, seed)
		for range 120 {
			if x.step(t); t.Failed() {
				t.Fatal("run ", seed)
			}
		}
	}
}

// same is whether two disks have the same, so far as can be told.
func same(one, two *disk.Disk) bool {
	names := one.List()
	if one.Down() != two.Down() || one.Done() != two.Done() || one.Used() != two.Used() || !slices.Equal(names, two.List()) {
		return false
	}
	for _, name := range names {
		n, _ := one.Size(name)
		m, _ := two.Size(name)
		b, e := one.Read(name, 0, n)
		if want, wantE := two.Read(name, 0, m); n != m || e != wantE || !bytes.Equal(b, want) {
			return false
		}
	}
	return true
}

// run is a log to which all happens that may, but for what turns, or is done to the disk by another one; and what it is to have then.
type run struct {
	c      chance
	limit  int
	d      *disk.Disk
	l      *log.Log
	all    []stands
	synced int         // so many of these are to be there behind a boot, at least
	maybe  map[int]int // segments of Drops that had an error: these may be dropped then
	count  int
}

func (x *run) add(t *testing.T) {
	t.Helper()
	x.count++
	r := sized(fmt.Sprintf("%05d", x.count), 20+x.c.below(60))
	if x.c.below(10) == 0 {
		r = piece(int64(x.count), 0, 1+x.c.below(300))
	}
	n, at, size, e := x.l.Add(r)
	if e == api.OK {
		x.all = append(x.all, stands{n, at, r})
		if size != seg.Size(x.d, n)-at {
			t.Fatal("it does not stand at the end")
		}
	}
}

func (x *run) drop() {
	var segs []int
	last, is := x.l.Last()
	for _, n := range x.l.Segs() {
		if x.c.below(4) == 0 && (!is || n != last) {
			segs = append(segs, n)
		}
	}
	if x.l.Drop(segs) != api.OK {
		for _, n := range segs {
			x.maybe[n] = n
		}
		return
	}
	x.without(segs)
}

// without has segments be dropped, of what is to be there.
func (x *run) without(segs []int) {
	var all []stands
	synced := 0
	for i, s := range x.all {
		if slices.Contains(segs, s.seg) {
			continue
		}
		all = append(all, s)
		if i < x.synced {
			synced++
		}
	}
	x.all, x.synced = all, synced
}

// records are those of Segs, one behind the other.
func (x *run) records() []stands {
	var l []stands
	for _, n := range x.l.Segs() {
		found, _, _ := seg.All(x.d, n)
		for _, f := range found {
			l = append(l, stands{n, f.At, f.R})
		}
	}
	return l
}

// boot is that power fails, and is there again, and expects what P15.3 says.
func (x *run) boot(t *testing.T) {
	t.Helper()
	var list []int
	for range x.c.below(5) {
		list = append(list, x.c.below(200))
	}
	were := x.l.Segs()
	x.d.Boot(x.c.below(15), list)
	x.l = open(t, x.d, x.limit)
	segs := x.l.Segs()
	var gone []int
	for _, n := range were {
		if !slices.Contains(segs, n) {
			gone = append(gone, n)
		}
		if _, is := x.maybe[n]; !is && !slices.Contains(segs, n) {
			t.Fatalf("segment %d is gone, of %v there is %v", n, were, segs)
		}
	}
	x.without(gone)
	clear(x.maybe)
	there := x.records()
	if len(there) < x.synced || len(there) > len(x.all) {
		t.Fatalf("%d are there, of %d; %d were synced", len(there), len(x.all), x.synced)
	}
	for i, s := range there {
		if want := x.all[i]; s.seg != want.seg || s.at != want.at || !bytes.Equal(rec.Put(s.r), rec.Put(want.r)) {
			t.Fatalf("the record %d is %s; want %s", i, brief(s), brief(want))
		}
	}
	x.all, x.synced = there, len(there)
}

// within expects what P15.4 says.
func (x *run) within(t *testing.T) {
	t.Helper()
	for _, n := range x.l.Segs() {
		if found, _, _ := seg.All(x.d, n); seg.Size(x.d, n) > x.limit && len(found) > 1 {
			t.Fatalf("segment %d has %d bytes, of %d records; the limit is %d", n, seg.Size(x.d, n), len(found), x.limit)
		}
	}
}

func (x *run) step(t *testing.T) {
	t.Helper()
	switch x.c.below(24) {
	case 0:
		x.l.Roll()
	case 1, 2:
		if x.l.Sync() == api.OK {
			x.synced = len(x.all)
		}
	case 3, 4:
		x.drop()
	case 5:
		x.l.Clean()
	case 6, 7:
		x.d.Fail(x.c.below(14))
	case 8:
		x.d.Cut(x.c.below(14))
	case 9:
		if x.d.Down() || x.c.below(6) == 0 {
			x.boot(t)
		}
	default:
		x.add(t)
	}
}

// P15.2, P15.3 and P15.4: what was added is there, in order, and in segments that are no longer than they are to be, whatever fails, and wherever power does.
func TestManyBoots(t *testing.T) {
	t.Parallel()
	longest, boots := 0, 0
	for seed := range 800 {
		c := chance(seed)
		x := &run{c: c, limit: 64 + c.below(300), d: disk.New([]int{1000, 5000, 1 << 20}[c.below(3)]), maybe: map[int]int{}}
		x.l = open(t, x.d, x.limit)
		for i := range 250 {
			x.step(t)
			if x.d.Down() {
				boots++
				x.boot(t)
			}
			if i%25 == 0 {
				x.within(t)
				expectStands(t, x.l, x.all)
			}
		}
		x.boot(t)
		longest = max(longest, len(x.all))
	}
	if longest < 20 || boots < 800 {
		t.Error("at most", longest, "records were there, power failed", boots, "times")
	}
}

// few adds some records, and syncs, drops and cleans.
func (x *run) few(t *testing.T) {
	t.Helper()
	for i := range 9 {
		x.add(t)
		if i%4 == 3 && x.l.Sync() == api.OK {
			x.synced = len(x.all)
		}
		if i == 6 {
			x.drop()
		}
	}
	x.l.Clean()
}

// P15.3: power fails at each thing of a run, with each part of names there again, and with some of the bytes.
func TestBootAtEachThing(t *testing.T) {
	things := 0
	for at := 0; ; at++ {
		for dirs := range 12 {
			x := &run{c: chance(at), limit: 100, d: disk.New(10000), maybe: map[int]int{}}
			x.l = open(t, x.d, x.limit)
			x.d.Cut(at)
			x.few(t)
			if !x.d.Down() {
				things = at
				break
			}
			x.c = chance(dirs + 12*at)
			x.boot(t)
			expectStands(t, x.l, x.all)
			x.few(t)
			x.boot(t)
		}
		if things > 0 {
			break
		}
	}
	if things < 40 {
		t.Error(things, "things were done")
	}
}
