package man_test

import (
	"bytes"
	"fmt"
	"slices"
	"testing"

	"souterrain/api"
	"souterrain/disk"
	"souterrain/man"
)

// loaded expects this manifest to be the disk's.
func loaded(t *testing.T, what string, d *disk.Disk, want api.Man) {
	t.Helper()
	if m, is, e := man.Load(d); !is || e != api.OK || !same(m, want) {
		t.Errorf("%s: loaded %s, %t, error %d; want %s", what, brief(m), is, e, brief(want))
	}
}

// notLoaded expects the disk to have no manifest, with this error.
func notLoaded(t *testing.T, what string, d *disk.Disk, want api.Errno) {
	t.Helper()
	if m, is, e := man.Load(d); is || e != want || !zero(m) {
		t.Errorf("%s: loaded %s, %t, error %d; want none, %d", what, brief(m), is, e, want)
	}
}

// save expects a Save to have an error, or OK.
func save(t *testing.T, what string, d *disk.Disk, m api.Man, want api.Errno) {
	t.Helper()
	if e := man.Save(d, m); e != want {
		t.Errorf("%s: save %s: error %d; want %d", what, brief(m), e, want)
	}
}

// lay has a file of these bytes be there.
func lay(t *testing.T, d *disk.Disk, name string, b []byte) {
	t.Helper()
	if d.Create(name) != api.OK || d.Append(name, b) != api.OK {
		t.Fatal("no file", name)
	}
}

// content is all bytes of a file.
func content(t *testing.T, d *disk.Disk, name string) []byte {
	t.Helper()
	n, _ := d.Size(name)
	b, e := d.Read(name, 0, n)
	if e != api.OK {
		t.Fatal(name, e)
	}
	return b
}

// down has power have failed.
func down(d *disk.Disk) {
	d.Cut(0)
	d.SyncDir()
}

// older and newer are manifests of unlike lengths.
func older() api.Man { return api.Man{Segs: []int{1, 2, 3}, Next: 4} }

func newer() api.Man { return api.Man{Segs: []int{2, 258}, Next: 300} }

// P10.1, J2 and J3, and P10.2: what is saved is loaded, of the file m alone, one over the other, whether power fails, or not.
func TestSaveAndLoad(t *testing.T) {
	l := rights()
	all := disk.New(api.MaxDisk)
	for i, m := range slices.Concat(l, l, l[:1]) {
		d := disk.New(10000)
		for _, d := range []*disk.Disk{d, all} {
			done := d.Done()
			save(t, "saved", d, m, api.OK)
			if d.Done() != done+5 {
				t.Error(d.Done()-done, "things were done")
			}
			loaded(t, "saved", d, m)
			if !slices.Equal(d.List(), []string{"m"}) || !bytes.Equal(content(t, d, "m"), written(m)) {
				t.Error(brief(m), d.List())
			}
			if i%2 == 0 {
				d.Boot(0, nil)
				loaded(t, "saved, and booted", d, m)
				if !slices.Equal(d.List(), []string{"m"}) {
					t.Error(brief(m), d.List())
				}
			}
		}
	}
}

// P10.1, J3: no manifest, whatever else there is: what is being written is none, nor what stands in other files.
func TestNoManifest(t *testing.T) {
	d := disk.New(1000)
	notLoaded(t, "new", d, api.OK)
	for _, name := range []string{"t", "M", "m0", "m00000000", "mm", "s00000000"} {
		lay(t, d, name, man.Put(older()))
		notLoaded(t, name, d, api.OK)
	}
	if d.Create("") != api.ErrArg || d.SyncDir() != api.OK {
		t.Error("no disk")
	}
	d.Boot(9, []int{99})
	notLoaded(t, "booted", d, api.OK)
	lay(t, d, "m", man.Put(older()))
	loaded(t, "laid there", d, older())
	d.Remove("m")
	notLoaded(t, "removed", d, api.OK)
}

// P10.1, J3, and P2: ErrDown comes ahead of all else.
func TestLoadWhileDown(t *testing.T) {
	d := disk.New(1000)
	down(d)
	notLoaded(t, "none is there", d, api.ErrDown)
	d.Boot(0, nil)
	notLoaded(t, "booted", d, api.OK)
	save(t, "one is there", d, newer(), api.OK)
	down(d)
	for range 3 {
		notLoaded(t, "one is there", d, api.ErrDown)
	}
	d.Boot(0, nil)
	loaded(t, "booted", d, newer())
	d.Flip("m", 50, 1)
	down(d)
	notLoaded(t, "a spoilt one is there", d, api.ErrDown)
	d.Boot(0, nil)
	notLoaded(t, "booted", d, api.ErrCorrupt)
}

// P10.1, J3: a file that holds anything but a right manifest's bytes.
func TestLoadOfWrongBytes(t *testing.T) {
	b := man.Put(newer())
	for _, x := range [][]byte{
		{}, {8}, b[:22], b[:4], b[:3], append(bytes.Clone(b), 0), append(bytes.Clone(b), b...), body(newer()), framed([]byte{8}), framed([]byte{9, 0, 0, 0, 7}),
		written(api.Man{Segs: []int{2}, Next: 2}), written(api.Man{Segs: []int{3, 2}, Next: 9}), written(api.Man{Next: 100000000}), written(api.Man{Segs: rising(1001, 0, 1), Next: 2000}), append(written(api.Man{Segs: rising(1000, 0, 1), Next: 2000}), 0), noise(9000, 1),
	} {
		d := disk.New(10000)
		lay(t, d, "m", x)
		notLoaded(t, fmt.Sprintf("% .40x", x), d, api.ErrCorrupt)
		if !bytes.Equal(content(t, d, "m"), x) {
			t.Errorf("% .40x has changed", x)
		}
		save(t, "over it", d, newer(), api.OK)
		loaded(t, "over it", d, newer())
	}
}

// P10.4: bits that turn in the file, at each place: within its first 32 bits, its last ones, and all between.
func TestSpoiltFile(t *testing.T) {
	for _, m := range []api.Man{{Next: 1}, older(), newer()} {
		d := disk.New(1000)
		save(t, "new", d, m, api.OK)
		bits := 8 * len(man.Put(m))
		for at := range bits {
			for _, mask := range masks() {
				if !d.Flip("m", at, mask) {
					t.Fatal("did not turn")
				}
				notLoaded(t, fmt.Sprintf("bits of %x from %d on", mask, at), d, api.ErrCorrupt)
				d.Flip("m", at, mask)
			}
		}
		loaded(t, "turned back", d, m)
		d.Flip("m", bits-1, 1)
		d.Boot(0, nil)
		notLoaded(t, "the last bit, and a boot", d, api.ErrCorrupt)
	}
}

// P10.1, J2, and P2: one that is not right has ErrArg, ahead of all that a disk may have, and nothing is done.
func TestSaveOfWrongOnes(t *testing.T) {
	for _, m := range wrongs() {
		d := disk.New(1000)
		save(t, "new", d, m, api.ErrArg)
		if len(d.List()) != 0 || d.Done() != 0 {
			t.Error(brief(m), d.List())
		}
		save(t, "older", d, older(), api.OK)
		lay(t, d, "t", []byte("left"))
		done := d.Done()
		d.Fail(0)
		save(t, "fails", d, m, api.ErrArg)
		if e := d.SyncDir(); e != api.ErrIO || d.Done() != done {
			t.Error(brief(m), "what was to fail was something else", e)
		}
		if !slices.Equal(d.List(), []string{"m", "t"}) || string(content(t, d, "t")) != "left" {
			t.Error(brief(m), d.List())
		}
		loaded(t, brief(m), d, older())
		down(d)
		save(t, "down", d, m, api.ErrArg)
	}
}

// P10.1, J2, and P2: a disk that is down has ErrDown, and is as it was behind a Boot.
func TestSaveWhileDown(t *testing.T) {
	for _, left := range []bool{false, true} {
		d := disk.New(1000)
		save(t, "older", d, older(), api.OK)
		if left {
			lay(t, d, "t", []byte("left"))
			d.SyncDir()
		}
		list, done := d.List(), d.Done()
		down(d)
		for range 3 {
			save(t, "down", d, newer(), api.ErrDown)
		}
		if !slices.Equal(d.List(), list) || d.Done() != done {
			t.Error(d.List(), d.Done())
		}
		d.Boot(0, nil)
		loaded(t, "booted", d, older())
		save(t, "booted", d, newer(), api.OK)
		loaded(t, "saved again", d, newer())
	}
}

// stages are what files there are ahead of each thing of a Save, and behind the last one: the sizes of m and t, -1 of one that is not there. was is m's size ahead of it, new that of the new one.
func stages(was, left, new int) [][2]int {
	l := [][2]int{{was, -1}, {was, 0}, {was, new}, {was, new}, {new, -1}, {new, -1}}
	if left >= 0 {
		l = slices.Concat([][2]int{{was, left}}, l)
	}
	return l
}

// sizes are how long m and t are.
func sizes(d *disk.Disk) [2]int {
	l := [2]int{-1, -1}
	for i, name := range []string{"m", "t"} {
		if n, is := d.Size(name); is {
			l[i] = n
		}
	}
	return l
}

// begun is a disk with, or without, an older manifest, and something that was left of what was to be another one (-1: nothing is left).
func begun(t *testing.T, was bool, left int) *disk.Disk {
	t.Helper()
	d := disk.New(10000)
	if was {
		save(t, "older", d, older(), api.OK)
	}
	if left >= 0 {
		lay(t, d, "t", noise(left, 4))
		d.SyncDir()
	}
	return d
}

// P10.1, J2: each thing of a Save in turn, and that the first error is the answer, with which it ends: nothing behind it is done, nothing ahead of it undone.
func TestEachThing(t *testing.T) {
	for _, was := range []bool{false, true} {
		for _, left := range []int{-1, 0, 5, 300} {
			size := -1
			if was {
				size = 27
			}
			l := stages(size, left, 23)
			for i, want := range l {
				for _, way := range []api.Errno{api.ErrIO, api.ErrDown} {
					d := begun(t, was, left)
					done := d.Done()
					e := way
					if way == api.ErrIO {
						d.Fail(i)
					} else {
						d.Cut(i)
					}
					if i == len(l)-1 {
						e = api.OK
					}
					what := fmt.Sprint(was, left, i, way)
					save(t, what, d, newer(), e)
					if sizes(d) != want || d.Done() != done+i || d.Down() != (e == api.ErrDown) {
						t.Errorf("%s: sizes %d, %d done, down %t; want %d, %d", what, sizes(d), d.Done()-done, d.Down(), want, i)
					}
				}
			}
		}
	}
}

// P10.1, J2: where a thing fails, and another one, or power, would have failed behind it, that one is still to come.
func TestOneErrorIsTheLast(t *testing.T) {
	for i := range 4 {
		d := begun(t, true, -1)
		d.Fail(i)
		d.Cut(i + 1)
		save(t, "fails ahead of a cut", d, newer(), api.ErrIO)
		if d.Down() {
			t.Error(i, "is down")
		}
		loaded(t, "fails ahead of a cut", d, older())
		save(t, "is cut", d, newer(), api.ErrDown)
		d.Boot(9, []int{99})
		loaded(t, "is cut", d, older())
	}
}

// P10.1, J2: a disk without room has ErrFull, and what was is there; what was left is gone by then, and its room is free.
func TestFull(t *testing.T) {
	for most := range 60 {
		for _, was := range []bool{false, true} {
			for _, left := range []int{-1, 0, 5, 9} {
				d := disk.New(most)
				if was && man.Save(d, older()) != api.OK || d.Used()+left > most {
					continue
				}
				room := most - d.Used()
				if left >= 0 {
					lay(t, d, "t", noise(left, 4))
				}
				what := fmt.Sprint(most, was, left)
				if room >= 23 {
					save(t, what, d, newer(), api.OK)
					loaded(t, what, d, newer())
					continue
				}
				save(t, what, d, newer(), api.ErrFull)
				if was {
					loaded(t, what, d, older())
				} else {
					notLoaded(t, what, d, api.OK)
				}
				if n, is := d.Size("t"); n != 0 || !is {
					t.Error(what, d.List())
				}
			}
		}
	}
	save(t, "no room at all", disk.New(0), api.Man{}, api.ErrFull)
	save(t, "just enough for none", disk.New(15), api.Man{}, api.OK)
}

// P10.1, J2: there may be too many files for one more; but not, if one was left, which goes ahead of it.
func TestTooManyFiles(t *testing.T) {
	d := disk.New(1000)
	save(t, "older", d, older(), api.OK)
	for i := range api.MaxFiles - 1 {
		d.Create(fmt.Sprint("x", i))
	}
	save(t, "too many", d, newer(), api.ErrTooMany)
	loaded(t, "too many", d, older())
	d.Rename("x5", "t")
	save(t, "as many as may be, one of which was left", d, newer(), api.OK)
	loaded(t, "as many as may be, one of which was left", d, newer())
	if len(d.List()) != api.MaxFiles-1 {
		t.Error(len(d.List()))
	}
}

// P10.1, J2: other files stay as they are, while one is saved, and behind a Boot.
func TestOtherFilesStay(t *testing.T) {
	d := disk.New(1000)
	names := []string{"M", "T", "h00000002", "m0", "mt", "s00000002", "t0", "t00000000"}
	for i, name := range names {
		lay(t, d, name, noise(10+i, uint64(i)))
		d.Sync(name)
	}
	for i := range 5 {
		d.Fail(i)
		save(t, "fails", d, newer(), api.ErrIO)
		save(t, "does not fail", d, older(), api.OK)
		d.Boot(i, []int{i})
		loaded(t, "saved", d, older())
	}
	for i, name := range names {
		if !bytes.Equal(content(t, d, name), noise(10+i, uint64(i))) {
			t.Error(name, "has changed")
		}
	}
	if want := slices.Sorted(slices.Values(append(names, "m"))); !slices.Equal(d.List(), want) {
		t.Error(d.List())
	}
}

// behind expects one of these to be there, whole, and tells it: each is a manifest, or nil of none.
func behind(t *testing.T, what string, d *disk.Disk, may ...*api.Man) *api.Man {
	t.Helper()
	m, is, e := man.Load(d)
	for _, x := range may {
		if e == api.OK && is == (x != nil) && (!is || same(m, *x)) {
			return x
		}
	}
	t.Errorf("%s: loaded %s, %t, error %d", what, brief(m), is, e)
	return nil
}

// lists are how many bytes that were not kept are there again behind a Boot.
func lists() [][]int {
	return [][]int{nil, {-1}, {0}, {1}, {5}, {15, 0}, {0, 15}, {0, 0, 99}, {99, 0, 0}, {3, 99}, {1 << 30}}
}

// P10.3: whatever fails, and power, at each thing, or behind it all, with each part of what is pending, and of bytes, there again: the older one is there, or the new one, whole; the new one, if Save was OK. Then one is saved again as ever.
func TestSwapped(t *testing.T) {
	older, newer, third := older(), newer(), api.Man{Segs: rising(40, 2, 3), Next: 500}
	seen := map[string]int{}
	for _, left := range []int{-1, 0, 300} {
		for _, was := range []*api.Man{nil, &older} {
			for fail := -1; fail < 7; fail++ {
				for cut := -1; cut < 7; cut++ {
					for dirs := -1; dirs < 6; dirs++ {
						for _, list := range lists() {
							what := fmt.Sprint("left ", left, ", was ", was != nil, ", fail ", fail, ", cut ", cut, ", boot ", dirs, list)
							d := begun(t, was != nil, left)
							d.Fail(fail)
							d.Cut(cut)
							e := man.Save(d, newer)
							if !d.Down() {
								behind(t, what+", ahead of the boot", d, was, &newer)
							}
							d.Boot(dirs, list)
							if e == api.OK {
								loaded(t, what, d, newer)
								seen["OK"]++
							} else if behind(t, what, d, was, &newer) == was {
								seen["was"]++
							} else {
								seen["new"]++
							}
							save(t, what, d, third, api.OK)
							d.Boot(0, nil)
							loaded(t, what+", saved again", d, third)
						}
					}
				}
			}
		}
	}
	if len(seen) != 3 || seen["new"] < 10 {
		t.Error(seen)
	}
}

// P10.3: everything, and nothing, of what is pending, where power fails ahead of the last thing: the new one, and the one that was.
func TestEverythingAndNothing(t *testing.T) {
	for _, was := range []bool{false, true} {
		for dirs, is := range map[int]bool{-1: false, 0: false, 1: false, 2: true, 3: true, 1 << 40: true} {
			d := begun(t, was, -1)
			d.Cut(4)
			save(t, "cut", d, newer(), api.ErrDown)
			d.Boot(dirs, nil)
			switch what := fmt.Sprint(was, dirs); {
			case is:
				loaded(t, what, d, newer())
			case was:
				loaded(t, what, d, older())
			default:
				notLoaded(t, what, d, api.OK)
			}
		}
	}
}

// P10.3: what was written under the name t alone is never a manifest's, however much of it is there again: all of it, once it was synced.
func TestTempIsNeverLoaded(t *testing.T) {
	for cut, size := range []func(int) int{
		func(int) int { return -1 },
		func(int) int { return 0 },
		func(n int) int { return min(n, 23) },
		func(int) int { return 23 },
	} {
		for n := range 30 {
			d := begun(t, true, -1)
			d.Cut(cut)
			save(t, "cut", d, newer(), api.ErrDown)
			d.Boot(9, []int{n})
			loaded(t, fmt.Sprint(cut, n), d, older())
			if got, want := sizes(d), [2]int{27, size(n)}; got != want {
				t.Error(cut, n, got, want)
			}
		}
	}
}

// P10.3: many Saves, one behind the other, of which things fail, with power that fails now and then: there is always one that was saved since the last one that was kept, or that one.
func TestManySaves(t *testing.T) {
	c := chance(7)
	for round := range 40 {
		d := disk.New(300 + 100*(round%5))
		may := []*api.Man{nil} // the one that is kept, then those that have, or may have, been swapped with it since
		now := may[0]
		for step := range 300 {
			what := fmt.Sprint("round ", round, ", step ", step)
			m := api.Man{Segs: rising(c.below(90), c.below(9), 1+c.below(5)), Next: 1000 + step}
			if c.below(2) == 0 {
				d.Fail(c.below(8))
			}
			if c.below(4) == 0 {
				d.Cut(c.below(14))
			}
			if e := man.Save(d, m); e == api.OK {
				may, now = nil, &m
			}
			if !d.Down() {
				now = behind(t, what, d, now, &m)
			}
			if d.Down() || now == &m {
				may = append(may, &m)
			}
			if d.Down() || c.below(5) == 0 {
				d.Boot(c.below(12)-1, []int{c.below(200) - 1, c.below(30), c.below(400)})
				now = behind(t, what+", booted", d, may...)
				may = []*api.Man{now}
			}
			if t.Failed() {
				return
			}
		}
	}
}

// P3: Save keeps nothing of what is handed in, nor changes it, nor does Load hand out anything of a disk.
func TestSaveKeepsNothing(t *testing.T) {
	for n := range 30 {
		d := disk.New(1000)
		room := rising(40, 1, 2)
		m := api.Man{Segs: room[:n], Next: 100}
		want := api.Man{Segs: slices.Clone(m.Segs), Next: 100}
		save(t, "new", d, m, api.OK)
		if !slices.Equal(room, rising(40, 1, 2)) {
			t.Error("numbers have changed")
		}
		clear(room)
		loaded(t, "its numbers have changed", d, want)
		one, _, _ := man.Load(d)
		two, _, _ := man.Load(d)
		clear(one.Segs[:cap(one.Segs)])
		if !same(two, want) {
			t.Error(n, "two answers share numbers")
		}
		loaded(t, "what was loaded has changed", d, want)
	}
}

// P3: disks are each their own; loading changes nothing, nor spends what is to fail.
func TestLoadChangesNothing(t *testing.T) {
	one, two := disk.New(1000), disk.New(1000)
	save(t, "one", one, older(), api.OK)
	save(t, "two", two, newer(), api.OK)
	lay(t, one, "t", []byte("left"))
	one.Fail(0)
	for range 4 {
		loaded(t, "one", one, older())
		loaded(t, "two", two, newer())
	}
	if e := one.SyncDir(); e != api.ErrIO || one.Done() != 7 || string(content(t, one, "t")) != "left" {
		t.Error(e, one.Done(), one.List())
	}
	one.Cut(0)
	notLoaded(t, "a third one", disk.New(1000), api.OK)
	loaded(t, "one, that is to be cut", one, older())
}
