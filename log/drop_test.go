package log_test

import (
	"fmt"
	"math"
	"slices"
	"testing"

	"souterrain/api"
	"souterrain/disk"
)

// P15.1, O4: what may not be dropped: the last segment, and numbers that are none of Segs, wherever they stand in the list. It has ErrArg, ahead of what the disk has, and nothing is done.
func TestDropOfWrongOnes(t *testing.T) {
	wrong := []int{0, 3, 4, 9, -1, 258, 99999999, 100000000, 1<<32 + 1, math.MinInt, math.MaxInt}
	d := disk.New(10000)
	l := three(t, d)
	lay(t, d, "s00000009", nil)
	ahead := state(d)
	d.Fail(0)
	for _, n := range wrong {
		for _, segs := range [][]int{{n}, {n, n}, {1, n}, {n, 1}, {1, 2, n}, {1, n, 2}, {n, 2, 1}, {1, 1, n}} {
			does(t, fmt.Sprint(segs), l.Drop(segs), api.ErrArg)
		}
	}
	has(t, "wrong", l, 3, 1, 2, 3)
	if state(d) != ahead || d.SyncDir() != api.ErrIO {
		t.Error("something was done")
	}
	down(d)
	does(t, "down", l.Drop([]int{1, 3}), api.ErrArg)
	does(t, "down", l.Drop([]int{1}), api.ErrDown)
	does(t, "down", l.Drop(nil), api.ErrDown)
	d.Boot(0, nil)
	has(t, "booted", l, 3, 1, 2, 3)
	does(t, "drop", l.Drop([]int{1}), api.OK)
	does(t, "again", l.Drop([]int{1}), api.ErrArg)
	does(t, "again", l.Drop([]int{2, 1}), api.ErrArg)
	has(t, "again", l, 3, 2, 3)
}

// P15.1, O4: each of Segs may be dropped, if there is no last segment, or another one is.
func TestDropWithoutALastOne(t *testing.T) {
	d := disk.New(10000)
	three(t, d)
	l := open(t, d, 64)
	does(t, "the one that was last", l.Drop([]int{3}), api.OK)
	has(t, "the one that was last", l, -1, 1, 2)
	does(t, "all", l.Drop([]int{2, 1}), api.OK)
	has(t, "all", l, -1)
	files(t, "all", d, "m")
	loaded(t, "all", d, 4)
	add(t, l, tomb("a"), 4, 13)
	has(t, "one more", open(t, d, 64), -1, 4)
}

// P15.1, O4, and P15.2: each choice of segments, in some order, some told twice: these, with their hints, are there no more, and the others as they were.
func TestDropOfEachChoice(t *testing.T) {
	for choice := range 64 {
		d := disk.New(10000)
		l := open(t, d, 64)
		for i := range 7 {
			add(t, l, sized("a", 40+i), 1+i, 13)
		}
		c := chance(choice)
		var segs []int
		want, names := []int{}, []string{}
		for n := 1; n <= 6; n++ {
			if choice>>(n-1)&1 == 0 {
				want, names = append(want, n), append(names, hintFile(n))
				continue
			}
			for range 1 + c.below(2) {
				segs = slices.Insert(segs, c.below(len(segs)+1), n)
			}
		}
		want, names = append(want, 7), append(names, "m")
		for _, n := range want {
			names = append(names, segFile(n))
		}
		what := fmt.Sprint("drop of ", segs)
		does(t, what, l.Drop(segs), api.OK)
		has(t, what, l, 7, want...)
		files(t, what, d, names...)
		loaded(t, what, d, 8, want...)
		for n := 1; n <= 7; n++ {
			if slices.Contains(want, n) {
				got(t, l, n, 13, sized("a", 39+n))
			} else {
				getFails(t, what, l, n, 13, api.ErrNone)
				noHints(t, what, l, n)
			}
		}
		add(t, l, sized("a", 50), 8, 13)
		d.Boot(0, nil)
		has(t, what, open(t, d, 64), -1, append(want, 8)...)
	}
}

// P15.1, O4: what was dropped is dropped when the manifest is saved, be its files there still, or not: they are nobody's, and Clean removes them.
func TestDropThatLeavesFiles(t *testing.T) {
	d := disk.New(10000)
	l := three(t, d)
	d.Cut(5)
	does(t, "drop", l.Drop([]int{1, 2}), api.OK)
	has(t, "drop", l, 3, 3)
	files(t, "drop", d, "h00000001", "h00000002", "m", "s00000001", "s00000002", "s00000003")
	getFails(t, "drop", l, 1, 13, api.ErrNone)
	noHints(t, "drop", l, 1)
	d.Boot(0, []int{99})
	for range 2 {
		l = open(t, d, 64)
		has(t, "booted", l, -1, 3)
		getFails(t, "booted", l, 1, 13, api.ErrNone)
		noHints(t, "booted", l, 1)
		l.Clean()
		files(t, "clean", d, "m", "s00000003")
		d.Boot(99, nil)
	}
}

// P15.1, O4, and P2: a Drop whose manifest is not saved has changed nothing of the log.
func TestDropThatFails(t *testing.T) {
	d := disk.New(10000)
	l := three(t, d)
	// The manifest of three segments has 27 bytes, of two 23, of one 19.
	lay(t, d, "x", make([]byte, 10000-d.Used()-22))
	does(t, "no room for the manifest", l.Drop([]int{1}), api.ErrFull)
	has(t, "no room for the manifest", l, 3, 1, 2, 3)
	files(t, "no room for the manifest", d, "h00000001", "h00000002", "m", "s00000001", "s00000002", "s00000003", "t", "x")
	got(t, l, 1, 13, tomb("aaaaaaaaaaaaaa"))
	if _, is := l.Hints(1); !is {
		t.Error("hints are gone")
	}
	does(t, "a smaller manifest", l.Drop([]int{1, 2}), api.OK)
	has(t, "a smaller manifest", l, 3, 3)
	files(t, "a smaller manifest", d, "m", "s00000003", "x")
}

// P15.1, O5: Clean removes Temp, and files of numbers that are none of Segs, and nothing else: not those of Segs, the last one among them, not the manifest, nor what is no file's name of a store.
func TestClean(t *testing.T) {
	others := []string{"x", "mm", "tt", "M", "T", "s", "h", "s0000001", "s000000001", "h0000001", "h000000001", "S00000009", "H00000009", "m00000009", "t00000009", "s0000000a", "s 0000009", "s+0000009", "h-0000009", "\x00", "s\xff\xff\xff\xff\xff\xff\xff\xff", "s00000009 "}
	nobodys := []string{"t", "s00000000", "h00000000", "s00000004", "h00000004", "s00000257", "h00000257", "s99999998", "s99999999", "h99999999"}
	for _, full := range []bool{true, false} {
		d := disk.New(100000)
		l := three(t, d)
		lay(t, d, "h00000003", nil)
		for _, name := range others {
			lay(t, d, name, []byte(name))
		}
		want, were := state(d), d.List()
		l.Clean()
		if state(d) != want {
			t.Error("something was removed", d.List())
		}
		for _, name := range nobodys {
			b := []byte(name)
			if !full {
				b = nil
			}
			lay(t, d, name, b)
		}
		done := d.Done()
		l.Clean()
		files(t, "clean", d, were...)
		if d.Done() != done+len(nobodys) {
			t.Error(d.Done()-done, "things were done")
		}
		has(t, "clean", l, 3, 1, 2, 3)
		l.Clean()
		if d.Done() != done+len(nobodys) {
			t.Error("more was removed")
		}
		l = open(t, d, 64)
		l.Clean()
		files(t, "opened", d, were...)
		has(t, "opened", l, -1, 1, 2, 3)
	}
}

// P15.1, O5: without a manifest each segment is nobody's; a disk of nothing stays so, and one that is down as it is.
func TestCleanOfAll(t *testing.T) {
	d := disk.New(100000)
	l := open(t, d, 64)
	l.Clean()
	files(t, "nothing", d)
	for n := range 100 {
		lay(t, d, segFile(n), []byte("s"))
		lay(t, d, hintFile(n), []byte("h"))
	}
	lay(t, d, "t", []byte("left"))
	lay(t, d, "x", []byte("other"))
	down(d)
	ahead := state(d)
	l.Clean()
	if state(d) != ahead {
		t.Error("the disk has changed")
	}
	d.Boot(999, []int{9})
	l.Clean()
	files(t, "all", d, "x")
}

// P15.1, O5: what can't be removed is left, and found by the next Clean.
func TestCleanThatFails(t *testing.T) {
	d := disk.New(1000)
	l := open(t, d, 64)
	names := []string{"h00000001", "h00000009", "s00000001", "s00000009", "t"}
	for i, left := range names {
		for _, name := range names {
			lay(t, d, name, []byte(name))
		}
		d.Fail(i)
		l.Clean()
		files(t, "fails", d, left)
		l.Clean()
		files(t, "again", d)
	}
}
