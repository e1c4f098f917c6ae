package log_test

import (
	"bytes"
	"fmt"
	"math"
	"slices"
	"strings"
	"testing"

	"souterrain/api"
	"souterrain/disk"
	"souterrain/hint"
	"souterrain/log"
	"souterrain/man"
	"souterrain/rec"
	"souterrain/seg"
)

// chance tells numbers that look like no pattern, but are the same each time.
type chance uint64

func (c *chance) below(n int) int {
	*c = *c*6364136223846793005 + 1442695040888963407
	return int(uint64(*c) >> 33 % uint64(n))
}

// noise is n bytes of all kinds; unlike seeds give unlike bytes.
func noise(n int, seed int) []byte {
	c := chance(seed)
	b := make([]byte, n)
	for i := range b {
		b[i] = byte(c.below(256))
	}
	return b
}

// sized is a record of a key whose frame is so long, from 10 and the key's length on.
func sized(key string, size int) api.Rec {
	return api.Rec{Kind: api.Inline, Key: key, B: noise(size-10-len(key), size)}
}

func tomb(key string) api.Rec { return api.Rec{Kind: api.Tomb, Key: key} }

func piece(id int64, no int, n int) api.Rec {
	return api.Rec{Kind: api.Piece, Id: id, No: no, B: noise(n, no)}
}

func root(key string, locs ...api.Loc) api.Rec {
	size := 0
	for _, l := range locs {
		size += l.N
	}
	return api.Rec{Kind: api.Root, Key: key, Id: 5, Size: size, Locs: locs}
}

// segFile and hintFile are names by the document's words.
func segFile(n int) string { return fmt.Sprintf("s%08d", n) }

func hintFile(n int) string { return fmt.Sprintf("h%08d", n) }

// brief is what a list begins with, as there may be much of it.
func brief(x any) string {
	s := fmt.Sprintf("%v", x)
	return s[:min(len(s), 200)]
}

// open expects a log of a disk.
func open(t *testing.T, d *disk.Disk, limit int) *log.Log {
	t.Helper()
	l, e := log.Open(d, limit)
	if l == nil || e != api.OK {
		t.Fatalf("open: %v, error %d", l, e)
	}
	return l
}

// openFails expects no log, and this error.
func openFails(t *testing.T, what string, d *disk.Disk, limit int, want api.Errno) {
	t.Helper()
	if l, e := log.Open(d, limit); l != nil || e != want {
		t.Errorf("%s: open of %d: %v, error %d; want none, %d", what, limit, l, e, want)
	}
}

// has expects these to be all segments, and this the last one (none, if it is below 0).
func has(t *testing.T, what string, l *log.Log, last int, segs ...int) {
	t.Helper()
	if got := l.Segs(); !slices.Equal(got, segs) {
		t.Errorf("%s: segments %s; want %s", what, brief(got), brief(segs))
	}
	if n, is := l.Last(); is != (last >= 0) || n != max(last, 0) {
		t.Errorf("%s: last %d, %t; want %d", what, n, is, last)
	}
}

// add expects a record to stand there, and to be got there.
func add(t *testing.T, l *log.Log, r api.Rec, seg int, at int) int {
	t.Helper()
	n, from, size, e := l.Add(r)
	if n != seg || from != at || size != 8+len(rec.Put(r)) || e != api.OK {
		t.Fatalf("add %s: segment %d, %d, %d long, error %d; want segment %d, %d", brief(r), n, from, size, e, seg, at)
	}
	got(t, l, seg, at, r)
	return size
}

// addFails expects an error, and nothing beside it.
func addFails(t *testing.T, what string, l *log.Log, r api.Rec, want api.Errno) {
	t.Helper()
	if n, at, size, e := l.Add(r); n != 0 || at != 0 || size != 0 || e != want {
		t.Errorf("%s: add %s: %d, %d, %d, error %d; want %d", what, brief(r), n, at, size, e, want)
	}
}

// got expects a record to be got there.
func got(t *testing.T, l *log.Log, seg int, at int, want api.Rec) {
	t.Helper()
	if r, e := l.Get(seg, at); e != api.OK || !bytes.Equal(rec.Put(r), rec.Put(want)) {
		t.Errorf("segment %d, %d: %s, error %d; want %s", seg, at, brief(r), e, brief(want))
	}
}

// getFails expects no record there, and this error.
func getFails(t *testing.T, what string, l *log.Log, seg int, at int, want api.Errno) {
	t.Helper()
	r, e := l.Get(seg, at)
	if e != want || r.Kind != 0 || r.Key != "" || r.Id != 0 || r.No != 0 || r.Size != 0 || len(r.Locs) != 0 || len(r.B) != 0 {
		t.Errorf("%s: segment %d, %d: %s, error %d; want %d", what, seg, at, brief(r), e, want)
	}
}

// does expects an error, or OK.
func does(t *testing.T, what string, e api.Errno, want api.Errno) {
	t.Helper()
	if e != want {
		t.Errorf("%s: error %d; want %d", what, e, want)
	}
}

// files expects a disk to have these names alone.
func files(t *testing.T, what string, d *disk.Disk, want ...string) {
	t.Helper()
	if l := d.List(); !slices.Equal(l, want) {
		t.Errorf("%s: files %s; want %s", what, brief(l), brief(want))
	}
}

// lay has a file of these bytes be there.
func lay(t *testing.T, d *disk.Disk, name string, b []byte) {
	t.Helper()
	if d.Create(name) != api.OK || d.Append(name, b) != api.OK {
		t.Fatal("no file", name)
	}
}

// content is all bytes of a file.
func content(t *testing.T, d *disk.Disk, name string) []byte {
	t.Helper()
	n, _ := d.Size(name)
	b, e := d.Read(name, 0, n)
	if e != api.OK {
		t.Fatal(name, e)
	}
	return b
}

// state tells all of a disk that can be told: of one that is down, not what stands in its files.
func state(d *disk.Disk) string {
	s := fmt.Sprintln(d.Down(), d.Done(), d.Used())
	for _, name := range d.List() {
		n, _ := d.Size(name)
		b, e := d.Read(name, 0, n)
		s += fmt.Sprintf("%s %d %x %d\n", name, n, b, e)
	}
	return s
}

// saved has a disk have this manifest.
func saved(t *testing.T, d *disk.Disk, next int, segs ...int) {
	t.Helper()
	if e := man.Save(d, api.Man{Segs: segs, Next: next}); e != api.OK {
		t.Fatal("no manifest", e)
	}
}

// loaded expects a disk to have this manifest.
func loaded(t *testing.T, what string, d *disk.Disk, next int, segs ...int) {
	t.Helper()
	if m, is, e := man.Load(d); !is || e != api.OK || m.Next != next || !slices.Equal(m.Segs, segs) {
		t.Errorf("%s: manifest %s, %t, error %d; want %d, and next %d", what, brief(m), is, e, segs, next)
	}
}

// down has power have failed.
func down(d *disk.Disk) {
	d.Cut(0)
	d.SyncDir()
}

// rising are so many numbers from one on.
func rising(from int, many int) []int {
	l := make([]int, many)
	for i := range l {
		l[i] = from + i
	}
	return l
}

// three is a log of the segments 1 to 3 on a disk, each of the tombs of two keys, the last one of one.
func three(t *testing.T, d *disk.Disk) *log.Log {
	t.Helper()
	l := open(t, d, 64)
	for i, key := range []string{"a", "b", "c", "d", "e"} {
		add(t, l, tomb(strings.Repeat(key, 14)), 1+i/2, 13+23*(i%2))
	}
	has(t, "three", l, 3, 1, 2, 3)
	return l
}

// rightLimits and wrongLimits are what a limit may be, and what not.
func rightLimits() []int { return []int{64, 65, 100, 4096, 1 << 20, 1<<30 - 1, 1 << 30} }

func wrongLimits() []int {
	return []int{63, 62, 13, 1, 0, -1, -64, math.MinInt, math.MinInt + 64, 1<<30 + 1, 1 << 31, 1<<32 + 64, 1<<32 - 1, math.MaxInt}
}

// P15.1, O1: what a limit may be. A wrong one has ErrArg ahead of what there is on the disk, and nothing is done there.
func TestOpenLimits(t *testing.T) {
	spoilt, fallen := disk.New(1000), disk.New(1000)
	lay(t, spoilt, "m", []byte("none"))
	down(fallen)
	for _, limit := range rightLimits() {
		has(t, "new", open(t, disk.New(1000), limit), -1)
		openFails(t, "spoilt", spoilt, limit, api.ErrCorrupt)
		openFails(t, "down", fallen, limit, api.ErrDown)
	}
	for _, limit := range wrongLimits() {
		for _, d := range []*disk.Disk{disk.New(1000), spoilt, fallen} {
			ahead := state(d)
			openFails(t, "wrong", d, limit, api.ErrArg)
			if state(d) != ahead {
				t.Error("the disk has changed")
			}
		}
	}
}

// P15.1, O1: the log is of the manifest that there is, whatever files there are, without a last segment; nothing is done on the disk.
func TestOpenManifests(t *testing.T) {
	for _, m := range []api.Man{{Next: 0}, {Next: 1}, {Next: 77}, {Segs: []int{0}, Next: 1}, {Segs: []int{3}, Next: 9}, {Segs: []int{2, 258, 70000}, Next: 99999}, {Segs: rising(5, 1000), Next: 4000}, {Segs: []int{99999998}, Next: 99999999}} {
		d := disk.New(100000)
		saved(t, d, m.Next, m.Segs...)
		lay(t, d, "s00000004", nil)
		lay(t, d, "t", man.Put(api.Man{Segs: []int{8}, Next: 9}))
		ahead := state(d)
		l := open(t, d, 64)
		has(t, brief(m), l, -1, m.Segs...)
		if state(d) != ahead {
			t.Error(brief(m), "the disk has changed")
		}
		does(t, "drop of none", l.Drop(nil), api.OK)
		loaded(t, brief(m), d, m.Next, m.Segs...)
	}
}

// P15.1, O1: if there is no manifest, none of the files is a segment, and Next is 1.
func TestOpenWithoutManifest(t *testing.T) {
	d := disk.New(1000)
	lay(t, d, "t", man.Put(api.Man{Segs: []int{8}, Next: 9}))
	lay(t, d, "h00000008", nil)
	if e := seg.Make(d, 0); e != api.OK {
		t.Fatal(e)
	}
	l := open(t, d, 64)
	has(t, "none", l, -1)
	getFails(t, "none", l, 0, 13, api.ErrNone)
	does(t, "drop of none", l.Drop(nil), api.OK)
	loaded(t, "none", d, 1)
	add(t, l, tomb("a"), 1, 13)
	has(t, "one", l, 1, 1)
}

// P15.1, O1, and P2: a manifest that is spoilt, or can't be read, is no log's.
func TestOpenOfSpoiltManifests(t *testing.T) {
	for _, b := range [][]byte{{}, {8}, []byte("none"), man.Put(api.Man{Next: 1})[1:], append(man.Put(api.Man{Next: 1}), 0)} {
		d := disk.New(1000)
		lay(t, d, "m", b)
		openFails(t, brief(b), d, 64, api.ErrCorrupt)
	}
	d := disk.New(1000)
	saved(t, d, 9, 2, 5)
	size, _ := d.Size("m")
	for at := range 8 * size {
		d.Flip("m", at, 1)
		openFails(t, fmt.Sprint("bit ", at), d, 64, api.ErrCorrupt)
		d.Flip("m", at, 1)
	}
	has(t, "turned back", open(t, d, 64), -1, 2, 5)
	d.Flip("m", 40, 1)
	down(d)
	openFails(t, "down", d, 64, api.ErrDown)
	d.Boot(0, nil)
	openFails(t, "booted", d, 64, api.ErrCorrupt)
}

// P15.1, O1 and O3: the document's example; what is added stands one behind the other in segment 1, as its file does.
func TestAddExample(t *testing.T) {
	d := disk.New(1000)
	l := open(t, d, 64)
	files(t, "open", d)
	add(t, l, tomb("ab"), 1, 13)
	add(t, l, sized("k", 20), 1, 24)
	has(t, "two", l, 1, 1)
	files(t, "two", d, "m", "s00000001")
	loaded(t, "two", d, 2, 1)
	all, spoilt, e := seg.All(d, 1)
	if len(all) != 2 || spoilt != 0 || e != api.OK || all[0].At != 13 || all[0].Size != 11 || all[0].R.Key != "ab" || all[1].At != 24 || all[1].Size != 20 || all[1].R.Key != "k" {
		t.Error(all, spoilt, e)
	}
}

// P15.1, O3, and P15.4: a record that just fills a segment stands in it; one that is a byte longer stands in the next one.
func TestAddFills(t *testing.T) {
	for limit := 64; limit < 140; limit++ {
		for first := 11; first < limit; first += 5 {
			for over := -3; over <= 3; over++ {
				second := limit - 13 - first + over
				if second < 11 {
					continue
				}
				l := open(t, disk.New(1000), limit)
				add(t, l, sized("a", first), 1, 13)
				if over <= 0 {
					add(t, l, sized("b", second), 1, 13+first)
					has(t, "fills", l, 1, 1)
				} else {
					add(t, l, sized("b", second), 2, 13)
					has(t, "passes", l, 2, 1, 2)
				}
			}
		}
	}
}

// P15.1, O3, and P15.4: the first record of a segment stands in it however long it is; behind one that is as long as the limit, or longer, nothing does.
func TestAddLong(t *testing.T) {
	for size := 30; size < 200; size++ {
		l := open(t, disk.New(2000), 64)
		add(t, l, sized("a", size), 1, 13)
		if 13+size+10 <= 64 {
			add(t, l, tomb("b"), 1, 13+size)
			continue
		}
		add(t, l, tomb("b"), 2, 13)
		add(t, l, sized("c", max(size, 42)), 3, 13)
		add(t, l, sized("d", size), 4, 13)
		has(t, "long", l, 4, 1, 2, 3, 4)
	}
	l := open(t, disk.New(100000), 64)
	longest := root(strings.Repeat("k", 64), slices.Repeat([]api.Loc{{Seg: 1, At: 13, N: 100}}, 512)...)
	add(t, l, longest, 1, 13)
	add(t, l, longest, 2, 13)
	add(t, l, piece(1, 1, 4096), 3, 13)
	add(t, l, tomb("a"), 4, 13)
	add(t, l, tomb("b"), 4, 23)
	does(t, "roll", l.Roll(), api.OK)
	add(t, l, longest, 5, 13)
}

// P15.1, O3: what counts is how long the file is, whatever stands in it: up to 13 bytes it takes each record, from 14 on none that has it pass the limit.
func TestAddBehindOtherBytes(t *testing.T) {
	for more := range 60 {
		for _, size := range []int{11, 30, 49, 50, 51, 52, 100} {
			d := disk.New(1000)
			l := open(t, d, 64)
			does(t, "roll", l.Roll(), api.OK)
			if d.Append("s00000001", make([]byte, more)) != api.OK {
				t.Fatal("no bytes more")
			}
			if more == 0 || 13+more+size <= 64 {
				add(t, l, sized("a", size), 1, 13+more)
			} else {
				add(t, l, sized("a", size), 2, 13)
			}
		}
	}
	for there := range 13 {
		d := disk.New(1000)
		l := open(t, d, 64)
		does(t, "roll", l.Roll(), api.OK)
		d.Remove("s00000001")
		lay(t, d, "s00000001", make([]byte, there))
		add(t, l, sized("a", 100), 1, there)
	}
}

// P15.1, O1 and O3: of the greatest limit one segment has all; a limit counts for what is added to a log that was opened with it, and for no segment that is there already.
func TestAddByLimit(t *testing.T) {
	d := disk.New(1 << 20)
	l := open(t, d, 1<<30)
	for i := range 1000 {
		add(t, l, sized("a", 100), 1, 13+100*i)
	}
	l = open(t, d, 64)
	add(t, l, sized("b", 100), 2, 13)
	add(t, l, sized("c", 100), 3, 13)
	l = open(t, d, 213)
	add(t, l, sized("d", 100), 4, 13)
	add(t, l, sized("e", 100), 4, 113)
	add(t, l, sized("f", 100), 5, 13)
	l = open(t, d, 1<<30)
	add(t, l, sized("g", 100), 6, 13)
	got(t, l, 1, 13+100*999, sized("a", 100))
	if seg.Size(d, 1) != 13+100*1000 {
		t.Error(seg.Size(d, 1))
	}
}

// wrongRecs are records that are not right.
func wrongRecs() []api.Rec {
	return []api.Rec{
		{}, {Kind: 5, Key: "a"}, {Kind: -1}, {Kind: math.MaxInt, Key: "a"}, tomb(""), tomb(strings.Repeat("k", 65)), {Kind: api.Tomb, Key: "a", B: []byte("b")}, {Kind: api.Inline, B: []byte("b")},
		{Kind: api.Inline, Key: "a", B: make([]byte, 4097)}, {Kind: api.Piece, Id: -1, B: []byte("b")}, piece(1, 512, 3), piece(1<<40+1, 1, 3), piece(1, 1, 0), piece(1, 1, 4097),
		{Kind: api.Root, Key: "a", Id: 1, Size: 3}, root("a", api.Loc{Seg: 100000000, At: 13, N: 3}), root("a", api.Loc{Seg: 1, At: -1, N: 3}), {Kind: api.Root, Key: "a", Size: 4, Locs: []api.Loc{{N: 3}}},
	}
}

// P15.1, O3, and P1 and P2: a record that is not right has ErrArg, ahead of all else, and nothing is done on the disk.
func TestAddOfWrongOnes(t *testing.T) {
	for _, r := range wrongRecs() {
		d := disk.New(1000)
		l := open(t, d, 64)
		for range 2 {
			d.Fail(0)
			ahead := state(d)
			addFails(t, "wrong", l, r, api.ErrArg)
			if state(d) != ahead || d.SyncDir() != api.ErrIO {
				t.Error(brief(r), "something was done")
			}
			l.Add(tomb("a"))
		}
		has(t, brief(r), l, 1, 1)
		if seg.Size(d, 1) != 33 {
			t.Error(seg.Size(d, 1))
		}
		down(d)
		addFails(t, "down", l, r, api.ErrArg)
	}
}

// P15.1, O3, and P2: an Add that fails has nothing stand anywhere; the next one stands where it would have stood.
func TestAddFails(t *testing.T) {
	d := disk.New(120)
	l := open(t, d, 1000)
	add(t, l, tomb("a"), 1, 13)
	ahead := seg.Size(d, 1)
	d.Fail(0)
	addFails(t, "fails", l, tomb("b"), api.ErrIO)
	addFails(t, "is full", l, sized("b", 79), api.ErrFull)
	has(t, "failed", l, 1, 1)
	if seg.Size(d, 1) != ahead {
		t.Error(seg.Size(d, 1))
	}
	add(t, l, sized("b", 78), 1, 23)
	addFails(t, "is full", l, tomb("c"), api.ErrFull)
	down(d)
	addFails(t, "down", l, tomb("c"), api.ErrDown)
	d.Boot(0, nil)
	d.Remove("s00000001")
	addFails(t, "gone", l, tomb("c"), api.ErrNone)
}

// P15.1, O3, and P2: an Add that has to Roll, which fails, has that error, and stands nowhere; the next one makes a segment anew, of a greater number, if one was made. An Add that fails behind its Roll leaves a segment in which the next one stands.
func TestAddThatRolls(t *testing.T) {
	for i := range 12 {
		what := fmt.Sprint("thing ", i)
		d := disk.New(1000)
		l := open(t, d, 64)
		add(t, l, sized("a", 30), 1, 13)
		d.Fail(i)
		switch {
		case i < 8:
			addFails(t, what, l, sized("b", 30), api.ErrIO)
			has(t, what, l, 1, 1)
			next := 3
			if i == 0 {
				next = 2
			}
			add(t, l, sized("b", 30), next, 13)
			has(t, what, l, next, 1, next)
		case i < 11:
			add(t, l, sized("b", 30), 2, 13)
			if _, is := l.Hints(1); is != (i == 10) {
				t.Error(what, "hints", is)
			}
		default:
			addFails(t, what, l, sized("b", 30), api.ErrIO)
			has(t, what, l, 2, 1, 2)
			add(t, l, sized("b", 30), 2, 13)
		}
		if seg.Size(d, 1) != 43 {
			t.Error(what, seg.Size(d, 1))
		}
	}
}

// P15.1, O3: what is none of Segs has ErrNone, whatever file there is, and also when the disk is down; in a segment the errors are seg.Get's.
func TestGetFails(t *testing.T) {
	d := disk.New(10000)
	l := three(t, d)
	if seg.Make(d, 9) != api.OK {
		t.Fatal("no segment")
	}
	if _, _, e := seg.Add(d, 9, tomb("a")); e != api.OK {
		t.Fatal(e)
	}
	d.Remove("s00000002")
	none := []int{0, 4, 9, -1, -2, 99999999, 100000000, 100000001, 1<<32 + 1, math.MinInt, math.MaxInt}
	for _, n := range none {
		for _, at := range []int{13, 0, -1, math.MaxInt} {
			getFails(t, "none", l, n, at, api.ErrNone)
		}
	}
	for at, want := range map[int]api.Errno{-1: api.ErrArg, math.MinInt: api.ErrArg, math.MaxInt: api.ErrArg, 0: api.ErrCorrupt, 12: api.ErrCorrupt, 14: api.ErrCorrupt, 35: api.ErrCorrupt, 55: api.ErrCorrupt, 56: api.ErrArg, 59: api.ErrArg, 60: api.ErrArg} {
		getFails(t, "nowhere", l, 1, at, want)
	}
	getFails(t, "gone", l, 2, 13, api.ErrNone)
	d.Flip("s00000001", 8*20, 1)
	getFails(t, "spoilt", l, 1, 13, api.ErrCorrupt)
	d.Flip("s00000001", 8*20, 1)
	d.Append("s00000003", []byte{0, 9, 255, 246, 1})
	getFails(t, "torn", l, 3, 36, api.ErrShort)
	down(d)
	getFails(t, "down", l, 1, 13, api.ErrDown)
	for _, n := range none {
		getFails(t, "none, and down", l, n, 13, api.ErrNone)
	}
}

// P15.2: what was added is got where it stands, in this log, and in one that is opened behind a boot, until its segment is dropped.
func TestThere(t *testing.T) {
	d := disk.New(1 << 20)
	l := open(t, d, 300)
	var all []stands
	for i := range 200 {
		for _, r := range []api.Rec{piece(int64(i), i, 1+i), sized("in", 20+i), tomb(fmt.Sprint(i)), root(fmt.Sprint(i), api.Loc{Seg: i, At: i, N: 1 + i})} {
			n, at, _, e := l.Add(r)
			does(t, "add", e, api.OK)
			all = append(all, stands{n, at, r})
		}
	}
	does(t, "sync", l.Sync(), api.OK)
	expectStands(t, l, all)
	d.Boot(0, nil)
	l = open(t, d, 64)
	for _, n := range slices.Backward(l.Segs()) {
		expectStands(t, l, all)
		does(t, "drop", l.Drop([]int{n}), api.OK)
	}
	expectStands(t, l, all)
}

// stands is where a record was added.
type stands struct {
	seg, at int
	r       api.Rec
}

// expectStands expects each record where it was added, if its segment is there.
func expectStands(t *testing.T, l *log.Log, all []stands) {
	t.Helper()
	segs := l.Segs()
	for _, s := range all {
		if slices.Contains(segs, s.seg) {
			got(t, l, s.seg, s.at, s.r)
		} else {
			getFails(t, "dropped", l, s.seg, s.at, api.ErrNone)
		}
	}
}

// P15.1, O3: Sync is OK without a last segment, even if the disk is down; else it is one thing, and has all that was added be kept.
func TestSync(t *testing.T) {
	d := disk.New(10000)
	down(d)
	d.Boot(0, nil)
	l := open(t, d, 64)
	d.Fail(0)
	does(t, "without a last one", l.Sync(), api.OK)
	does(t, "to fail", d.SyncDir(), api.ErrIO)
	down(d)
	does(t, "without a last one, down", l.Sync(), api.OK)
	d.Boot(0, nil)
	add(t, l, tomb("a"), 1, 13)
	done := d.Done()
	d.Fail(0)
	does(t, "fails", l.Sync(), api.ErrIO)
	if d.Done() != done {
		t.Error("something was done")
	}
	does(t, "again", l.Sync(), api.OK)
	if d.Done() != done+1 {
		t.Error(d.Done()-done, "things were done")
	}
	add(t, l, tomb("b"), 1, 23)
	d.Cut(0)
	does(t, "power fails", l.Sync(), api.ErrDown)
	does(t, "down", l.Sync(), api.ErrDown)
	d.Boot(0, nil)
	if size := seg.Size(d, 1); size != 23 {
		t.Error(size)
	}
	got(t, l, 1, 13, tomb("a"))
	getFails(t, "lost", l, 1, 23, api.ErrArg)
	d.Remove("s00000001")
	does(t, "gone", l.Sync(), api.ErrNone)
}

// hinted expects a segment's hints to be these; noHints expects none.
func hinted(t *testing.T, what string, l *log.Log, n int, want ...api.Hint) {
	t.Helper()
	if h, is := l.Hints(n); !is || !slices.Equal(h, want) {
		t.Errorf("%s: hints of %d: %s, %t; want %s", what, n, brief(h), is, brief(want))
	}
}

func noHints(t *testing.T, what string, l *log.Log, n int) {
	t.Helper()
	if h, is := l.Hints(n); is || len(h) != 0 {
		t.Errorf("%s: hints of %d: %s, %t; want none", what, n, brief(h), is)
	}
}

// P15.1, O5: hints are told of each segment that has a right file of them; there is none of the last one, nor of what is no segment.
func TestHints(t *testing.T) {
	d := disk.New(10000)
	l := three(t, d)
	first := []api.Hint{{Kind: 4, Key: strings.Repeat("a", 14), At: 13, Size: 23}, {Kind: 4, Key: strings.Repeat("b", 14), At: 36, Size: 23}}
	hinted(t, "first", l, 1, first...)
	lay(t, d, "h00000009", content(t, d, "h00000001"))
	for _, n := range []int{0, 3, 4, 9, -1, 99999999, 100000000, math.MinInt, math.MaxInt, 1<<32 + 1} {
		noHints(t, "none", l, n)
	}
	down(d)
	noHints(t, "down", l, 1)
	d.Boot(99, []int{99})
	hinted(t, "booted", l, 1, first...)
	x := open(t, d, 64)
	hinted(t, "opened", x, 1, first...)
	does(t, "drop", x.Drop([]int{1}), api.OK)
	lay(t, d, "h00000001", hint.Put(first, 0))
	noHints(t, "dropped", x, 1)
	lay(t, d, "h00000003", hint.Put(first, seg.Size(d, 3)))
	hinted(t, "of the last one", l, 3, first...)
}

// P15.1, O5: a hints' file that is spoilt, too short or too long, of a segment of another length, or gone, is none.
func TestSpoiltHints(t *testing.T) {
	d := disk.New(10000)
	l := three(t, d)
	want, _ := l.Hints(2)
	b := content(t, d, "h00000002")
	for at := range 8 * len(b) {
		d.Flip("h00000002", at, 1)
		noHints(t, fmt.Sprint("bit ", at), l, 2)
		d.Flip("h00000002", at, 1)
	}
	hinted(t, "turned back", l, 2, want...)
	for n := range len(b) {
		d.Remove("h00000002")
		lay(t, d, "h00000002", b[:n])
		noHints(t, fmt.Sprint(n, " bytes"), l, 2)
	}
	d.Append("h00000002", b[len(b)-1:])
	hinted(t, "whole", l, 2, want...)
	d.Append("h00000002", []byte{0})
	noHints(t, "a byte more", l, 2)
	d.Remove("h00000002")
	noHints(t, "gone", l, 2)
	lay(t, d, "h00000002", hint.Put(want, 60))
	noHints(t, "of a shorter one", l, 2)
	d.Append("s00000002", []byte{0})
	hinted(t, "of one as long", l, 2, want...)
	d.Append("s00000002", []byte{0})
	noHints(t, "of a shorter one", l, 2)
	d.Remove("s00000002")
	noHints(t, "of none", l, 2)
	d.Remove("h00000002")
	lay(t, d, "h00000002", hint.Put(want, 0))
	hinted(t, "of one of no bytes", l, 2, want...)
}

// P15.1, and P3: two logs on two disks change nothing of one another.
func TestTwoDisks(t *testing.T) {
	one, two := disk.New(10000), disk.New(10000)
	x, y := three(t, one), open(t, two, 1000)
	ahead := state(one)
	add(t, y, tomb("y"), 1, 13)
	does(t, "roll", y.Roll(), api.OK)
	does(t, "drop", y.Drop([]int{1}), api.OK)
	two.Cut(0)
	does(t, "sync", y.Sync(), api.ErrDown)
	y.Clean()
	if state(one) != ahead {
		t.Error("the other disk has changed")
	}
	has(t, "one", x, 3, 1, 2, 3)
	has(t, "two", y, 2, 2)
	does(t, "sync", x.Sync(), api.OK)
	add(t, x, tomb("a"), 3, 36)
	two.Boot(0, nil)
	has(t, "two", open(t, two, 64), -1, 2)
}

// P3: lists that come out are new memory, their spare room too.
func TestListsAreNew(t *testing.T) {
	d := disk.New(10000)
	l := three(t, d)
	for range 3 {
		segs := l.Segs()
		segs = segs[:cap(segs)]
		hints, _ := l.Hints(1)
		other, _ := l.Hints(1)
		r, _ := l.Get(1, 13)
		for i := range segs {
			segs[i] = 77
		}
		clear(hints[:cap(hints)])
		clear(r.B[:cap(r.B)])
		has(t, "overwritten", l, 3, 1, 2, 3)
		hinted(t, "overwritten", l, 1, other...)
		got(t, l, 1, 13, tomb(strings.Repeat("a", 14)))
	}
	segs := l.Segs()
	does(t, "roll", l.Roll(), api.OK)
	does(t, "drop", l.Drop([]int{2}), api.OK)
	if !slices.Equal(segs, []int{1, 2, 3}) {
		t.Error(segs)
	}
	segs = l.Segs()
	_ = append(segs[:1], 55, 66, 77, 88)
	does(t, "roll", l.Roll(), api.OK)
	has(t, "appended", l, 5, 1, 3, 4, 5)
	loaded(t, "appended", d, 6, 1, 3, 4, 5)
}

// P3: what is handed in is not changed, nor its spare room, and not kept.
func TestHandedInStays(t *testing.T) {
	d := disk.New(10000)
	l := open(t, d, 64)
	room := noise(100, 1)
	locs := []api.Loc{{Seg: 1, At: 13, N: 3}, {Seg: 2, At: 13, N: 3}, {Seg: 9, At: 9, N: 9}}
	wasRoom, wasLocs := bytes.Clone(room), slices.Clone(locs)
	add(t, l, api.Rec{Kind: api.Inline, Key: "a", B: room[:20]}, 1, 13)
	add(t, l, root("b", locs[:2]...), 2, 13)
	if !bytes.Equal(room, wasRoom) || !slices.Equal(locs, wasLocs) {
		t.Error("what was added has changed")
	}
	clear(room)
	clear(locs)
	got(t, l, 1, 13, api.Rec{Kind: api.Inline, Key: "a", B: wasRoom[:20]})
	got(t, l, 2, 13, root("b", wasLocs[:2]...))
	for range 3 {
		does(t, "roll", l.Roll(), api.OK)
	}
	segs := []int{4, 2, 4, 1, 3}
	does(t, "drop", l.Drop(segs[:3]), api.OK)
	does(t, "drop", l.Drop(segs[:3]), api.ErrArg)
	if !slices.Equal(segs, []int{4, 2, 4, 1, 3}) {
		t.Error("what was dropped has changed", segs)
	}
	clear(segs)
	has(t, "dropped", l, 5, 1, 3, 5)
}
