package log_test

import (
	"fmt"
	"slices"
	"strings"
	"testing"

	"souterrain/api"
	"souterrain/disk"
	"souterrain/frame"
	"souterrain/hint"
	"souterrain/log"
	"souterrain/man"
	"souterrain/seg"
)

// thing is one of those that are done on a disk.
type thing func(d *disk.Disk) api.Errno

func create(name string) thing {
	return func(d *disk.Disk) api.Errno { return d.Create(name) }
}

func appends(name string, b []byte) thing {
	return func(d *disk.Disk) api.Errno { return d.Append(name, b) }
}

func syncs(name string) thing {
	return func(d *disk.Disk) api.Errno { return d.Sync(name) }
}

func remove(name string) thing {
	return func(d *disk.Disk) api.Errno { return d.Remove(name) }
}

// written are the things that write a file of these bytes, and keep them.
func written(name string, b []byte) []thing {
	return []thing{create(name), appends(name, b), syncs(name)}
}

// saves are the things of a manifest that is saved.
func saves(next int, segs ...int) []thing {
	renames := func(d *disk.Disk) api.Errno { return d.Rename("t", "m") }
	return append(written("t", man.Put(api.Man{Segs: segs, Next: next})), renames, (*disk.Disk).SyncDir)
}

// makes are the things of a segment that is made.
func makes(n int) []thing {
	first := frame.Put([]byte{9, byte(n >> 24), byte(n >> 16), byte(n >> 8), byte(n)})
	return []thing{create(segFile(n)), appends(segFile(n), first)}
}

// removes are the things of files that are removed.
func removes(names ...string) []thing {
	var l []thing
	for _, name := range names {
		l = append(l, remove(name))
	}
	return l
}

// act is what a log is to do, and which things that is on its disk, in order: the first ones of these matter. When one that does not matter fails the others are done, or not.
type act struct {
	what   string
	begin  func(t *testing.T, d *disk.Disk) *log.Log
	do     func(l *log.Log) api.Errno
	things []thing
	matter int
	goesOn bool
	undone map[int]thing                                        // what is done when that one fails
	behind func(t *testing.T, what string, l *log.Log, did int) // what is asked of the log then
}

// at is a disk on which the log does it, while the i-th thing fails, or power does at it.
func (a act) at(t *testing.T, i int, cut bool) (*disk.Disk, *log.Log, api.Errno) {
	d := disk.New(10000)
	l := a.begin(t, d)
	if cut {
		d.Cut(i)
	} else {
		d.Fail(i)
	}
	return d, l, a.do(l)
}

// byHand is a disk on which the same things were done one by one.
func (a act) byHand(t *testing.T, i int, cut bool) *disk.Disk {
	d := disk.New(10000)
	a.begin(t, d)
	todo := slices.Clone(a.things[:i])
	if u := a.undone[i]; u != nil && !cut {
		todo = append(todo, u)
	}
	if i >= a.matter && i < len(a.things) && a.goesOn && !cut {
		todo = append(todo, a.things[i+1:]...)
	}
	for j, do := range todo {
		if e := do(d); e != api.OK {
			t.Fatalf("%s: thing %d by hand: error %d", a.what, j, e)
		}
	}
	if cut && i < len(a.things) {
		down(d)
	}
	return d
}

// boots are what may be there again of names and of bytes.
func boots() (dirs []int, bytes [][]int) {
	return []int{0, 1, 2, 3, 4, 5, 6, 99}, [][]int{nil, {99}, {7}, {1, 20, 99, 0, 13}, {25, 0, 14}}
}

// check expects that the log does these things alone, in this order, when none of them fails, and when each one does, or power at it; and that the same is there behind each boot.
func (a act) check(t *testing.T) {
	t.Helper()
	for i := range len(a.things) + 1 {
		for _, cut := range []bool{false, true} {
			what := fmt.Sprintf("%s: thing %d of %d, cut: %t", a.what, i, len(a.things), cut)
			want := api.OK
			if i < a.matter && cut {
				want = api.ErrDown
			} else if i < a.matter {
				want = api.ErrIO
			}
			d, l, e := a.at(t, i, cut)
			does(t, what, e, want)
			if by := a.byHand(t, i, cut); state(d) != state(by) {
				t.Errorf("%s: the disk is\n%s; want\n%s", what, state(d), state(by))
			}
			if a.behind != nil {
				d.Boot(99, []int{99})
				a.behind(t, what, l, i)
			}
			a.checkBoots(t, what, i, cut)
		}
	}
}

func (a act) checkBoots(t *testing.T, what string, i int, cut bool) {
	t.Helper()
	dirs, bytes := boots()
	for _, n := range dirs {
		for _, b := range bytes {
			d, _, _ := a.at(t, i, cut)
			by := a.byHand(t, i, cut)
			d.Boot(n, b)
			by.Boot(n, b)
			if state(d) != state(by) {
				t.Fatalf("%s: behind a boot of %d, %v the disk is\n%s; want\n%s", what, n, b, state(d), state(by))
			}
			if _, e := log.Open(d, 64); e != api.OK {
				t.Fatalf("%s: behind a boot of %d, %v: error %d", what, n, b, e)
			}
		}
	}
}

func roll(l *log.Log) api.Errno { return l.Roll() }

// rolled asks a log what is there behind a Roll, of which so many things were done: as it was, or as it was to be, with the number n; and which number comes next: n, if not even the last segment was synced, else one more.
func rolled(were []int, last int, n int, synced int, matter int) func(*testing.T, string, *log.Log, int) {
	return func(t *testing.T, what string, l *log.Log, did int) {
		t.Helper()
		segs, last, next := slices.Clone(were), last, n+1
		if did >= matter {
			segs, last = append(segs, n), n
		}
		if did < synced {
			next = n
		}
		has(t, what, l, last, segs...)
		does(t, what, l.Roll(), api.OK)
		has(t, what, l, next, append(segs, next)...)
	}
}

// P15.1, O2: the first Roll, on a disk that has nothing.
func TestFirstRollInOrder(t *testing.T) {
	act{
		what:   "first roll",
		begin:  func(t *testing.T, d *disk.Disk) *log.Log { return open(t, d, 64) },
		do:     roll,
		things: slices.Concat(makes(1), saves(2, 1)),
		matter: 7,
		undone: map[int]thing{1: remove("s00000001")},
		behind: rolled(nil, -1, 1, 0, 7),
	}.check(t)
}

// P15.1, O2: a Roll without a last segment, of a manifest with segments, when a manifest was left that was not written to its end.
func TestOpenedRollInOrder(t *testing.T) {
	act{
		what: "opened, roll",
		begin: func(t *testing.T, d *disk.Disk) *log.Log {
			three(t, d)
			lay(t, d, "t", []byte("left"))
			return open(t, d, 64)
		},
		do:     roll,
		things: slices.Concat(makes(4), removes("t"), saves(5, 1, 2, 3, 4)),
		matter: 8,
		undone: map[int]thing{1: remove("s00000004")},
		behind: rolled([]int{1, 2, 3}, -1, 4, 0, 8),
	}.check(t)
}

// P15.1, O2: a Roll with a last segment, whose hints are written at the end.
func TestRollInOrder(t *testing.T) {
	hints := []api.Hint{{Kind: 4, Key: strings.Repeat("e", 14), At: 13, Size: 23}}
	act{
		what:   "roll",
		begin:  three,
		do:     roll,
		things: slices.Concat([]thing{syncs("s00000003")}, makes(4), saves(5, 1, 2, 3, 4), written("h00000003", hint.Put(hints, 36))),
		matter: 8,
		undone: map[int]thing{2: remove("s00000004")},
		behind: rolled([]int{1, 2, 3}, 3, 4, 1, 8),
	}.check(t)
}

// P15.1, O2: a Roll with a last segment in which nothing stands, behind one of a number that the manifest has not, and a hints' file of its number.
func TestRollOfAnEmptyOneInOrder(t *testing.T) {
	act{
		what: "roll of an empty one",
		begin: func(t *testing.T, d *disk.Disk) *log.Log {
			l := open(t, d, 64)
			does(t, "roll", l.Roll(), api.OK)
			lay(t, d, "s00000258", []byte("nobody's"))
			lay(t, d, "h00000259", []byte("nobody's"))
			lay(t, d, "t", nil)
			lay(t, d, "other", []byte("nobody's"))
			return l
		},
		do:     roll,
		things: slices.Concat([]thing{syncs("s00000001")}, makes(259), removes("t"), saves(260, 1, 259), written("h00000001", hint.Put(nil, 13))),
		matter: 9,
		undone: map[int]thing{2: remove("s00000259")},
		behind: rolled([]int{1}, 1, 259, 1, 9),
	}.check(t)
}

// P15.1, O3: an Add that rolls does what a Roll does, and adds behind it.
func TestAddThatRollsInOrder(t *testing.T) {
	r := sized("f", 40)
	for i := range 13 {
		for _, cut := range []bool{false, true} {
			fails := func(d *disk.Disk) {
				if cut {
					d.Cut(i)
				} else {
					d.Fail(i)
				}
			}
			what := fmt.Sprintf("add: thing %d, cut: %t", i, cut)
			d, by := disk.New(10000), disk.New(10000)
			l, rolls := three(t, d), three(t, by)
			fails(d)
			fails(by)
			n, at, size, e := l.Add(r)
			want := rolls.Roll()
			if want == api.OK {
				_, _, want = seg.Add(by, 4, r)
			}
			does(t, what, e, want)
			if state(d) != state(by) || e == api.OK && (n != 4 || at != 13 || size != 40) || e != api.OK && (n != 0 || at != 0 || size != 0) {
				t.Errorf("%s: %d, %d, %d; the disk is\n%s; want\n%s", what, n, at, size, state(d), state(by))
			}
		}
	}
}

// droppedOf asks a log what is there behind a Drop of which so many things were done.
func droppedOf(were []int, then []int, last int, matter int) func(*testing.T, string, *log.Log, int) {
	return func(t *testing.T, what string, l *log.Log, did int) {
		t.Helper()
		if did >= matter {
			has(t, what, l, last, then...)
		} else {
			has(t, what, l, last, were...)
		}
		does(t, what, l.Drop(nil), api.OK)
	}
}

// P15.1, O4: a Drop saves the manifest, and removes the files of each segment, in the order of Segs, whatever comes of that.
func TestDropInOrder(t *testing.T) {
	act{
		what: "drop",
		begin: func(t *testing.T, d *disk.Disk) *log.Log {
			l := three(t, d)
			does(t, "roll", l.Roll(), api.OK)
			return l
		},
		do:     func(l *log.Log) api.Errno { return l.Drop([]int{3, 1, 3}) },
		things: slices.Concat(saves(5, 2, 4), removes("s00000001", "h00000001", "s00000003", "h00000003")),
		matter: 5,
		goesOn: true,
		behind: droppedOf([]int{1, 2, 3, 4}, []int{2, 4}, 4, 5),
	}.check(t)
}

// P15.1, O4: files that are not there are not removed; a manifest that was left is, as it is saved.
func TestDropOfWhatIsNotThereInOrder(t *testing.T) {
	act{
		what: "drop of what is not there",
		begin: func(t *testing.T, d *disk.Disk) *log.Log {
			l := three(t, d)
			does(t, "roll", l.Roll(), api.OK)
			for _, name := range []string{"s00000002", "h00000001", "h00000003"} {
				does(t, name, d.Remove(name), api.OK)
			}
			lay(t, d, "t", []byte("left"))
			return l
		},
		do:     func(l *log.Log) api.Errno { return l.Drop([]int{1, 2, 3}) },
		things: slices.Concat(removes("t"), saves(5, 4), removes("s00000001", "h00000002", "s00000003")),
		matter: 6,
		goesOn: true,
		behind: droppedOf([]int{1, 2, 3, 4}, []int{4}, 4, 6),
	}.check(t)
}

// P15.1, O4: a Drop of none saves the manifest that there is.
func TestDropOfNoneInOrder(t *testing.T) {
	act{
		what:   "drop of none",
		begin:  three,
		do:     func(l *log.Log) api.Errno { return l.Drop([]int{}) },
		things: saves(4, 1, 2, 3),
		matter: 5,
		goesOn: true,
		behind: droppedOf([]int{1, 2, 3}, []int{1, 2, 3}, 3, 5),
	}.check(t)
}

// P15.1, O5: Clean removes each file that is nobody's, in the order of names, whatever comes of that.
func TestCleanInOrder(t *testing.T) {
	act{
		what: "clean",
		begin: func(t *testing.T, d *disk.Disk) *log.Log {
			l := three(t, d)
			for _, name := range []string{"t", "s00000004", "h00000004", "s00000000", "h99999999", "other", "s1", "h00000003"} {
				lay(t, d, name, []byte(name))
			}
			return l
		},
		do: func(l *log.Log) api.Errno {
			l.Clean()
			return api.OK
		},
		things: removes("h00000004", "h99999999", "s00000000", "s00000004", "t"),
		matter: 0,
		goesOn: true,
		behind: droppedOf(nil, []int{1, 2, 3}, 3, 0),
	}.check(t)
}

// P15.1, O3: a Sync is a thing of the last segment's file alone.
func TestSyncInOrder(t *testing.T) {
	act{
		what: "sync",
		begin: func(t *testing.T, d *disk.Disk) *log.Log {
			l := three(t, d)
			add(t, l, tomb("f"), 3, 36)
			lay(t, d, "s00000004", []byte("nobody's"))
			return l
		},
		do:     func(l *log.Log) api.Errno { return l.Sync() },
		things: []thing{syncs("s00000003")},
		matter: 1,
		behind: droppedOf(nil, []int{1, 2, 3}, 3, 0),
	}.check(t)
}
