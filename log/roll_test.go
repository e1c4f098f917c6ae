package log_test

import (
	"bytes"
	"fmt"
	"slices"
	"testing"

	"souterrain/api"
	"souterrain/disk"
	"souterrain/hint"
	"souterrain/man"
	"souterrain/seg"
)

// P15.1, O2: the number is the greater one of Next, and one more than the greatest one that a segment's name on the disk has; no other name counts.
func TestRollNumbers(t *testing.T) {
	for _, x := range []struct {
		next  int
		segs  []int
		files []string
		want  int
	}{
		{0, nil, nil, 0}, {1, nil, nil, 1}, {5, nil, nil, 5}, {5, []int{2}, nil, 5}, {5, []int{2, 4}, []string{"s00000002", "s00000004"}, 5},
		{5, []int{2}, []string{"s00000003"}, 5}, {5, []int{2}, []string{"s00000004"}, 5}, {5, []int{2}, []string{"s00000005"}, 6}, {5, []int{2}, []string{"s00000006"}, 7},
		{0, nil, []string{"s00000000"}, 1}, {1, nil, []string{"s00000009", "s00000010", "s00000008"}, 11}, {7, nil, []string{"s00000256", "s00000258", "s00000257"}, 259},
		{5, nil, []string{"h00000009", "t", "s9", "s000000009", "s0000000a", "S00000009", "x00000009", "00000009", "s 0000009", "s-0000009"}, 5},
		{99999997, nil, nil, 99999997}, {99999998, nil, nil, 99999998}, {1, nil, []string{"s99999996"}, 99999997}, {1, []int{0}, []string{"s99999997", "s00000003"}, 99999998},
	} {
		d := disk.New(10000)
		saved(t, d, x.next, x.segs...)
		for _, name := range x.files {
			lay(t, d, name, nil)
		}
		l := open(t, d, 64)
		does(t, brief(x), l.Roll(), api.OK)
		has(t, brief(x), l, x.want, append(slices.Clone(x.segs), x.want)...)
		loaded(t, brief(x), d, x.want+1, append(slices.Clone(x.segs), x.want)...)
		if all, spoilt, e := seg.All(d, x.want); len(all) != 0 || spoilt != 0 || e != api.OK || seg.Size(d, x.want) != 13 {
			t.Error(brief(x), "the segment is not new:", all, spoilt, e)
		}
	}
}

// P15.1, O2, and P2: of a number that is not below MaxSeg there is none, and Next stays: when the file is gone that has the name the number is as it was to be.
func TestRollOfTheLastNumbers(t *testing.T) {
	for _, name := range []string{"s99999998", "s99999999"} {
		d := disk.New(10000)
		l := three(t, d)
		lay(t, d, name, nil)
		for range 3 {
			done, ahead := d.Done(), d.List()
			does(t, name, l.Roll(), api.ErrFull)
			if d.Done() != done+1 || !slices.Equal(d.List(), ahead) {
				t.Error(name, d.Done()-done, "things were done", d.List())
			}
			has(t, name, l, 3, 1, 2, 3)
			addFails(t, name, l, sized("f", 40), api.ErrFull)
		}
		add(t, l, tomb("f"), 3, 36)
		does(t, name, l.Drop(nil), api.OK)
		loaded(t, name, d, 4, 1, 2, 3)
		d.Remove(name)
		add(t, l, sized("f", 40), 4, 13)
	}
	d := disk.New(10000)
	saved(t, d, 99999999, 5)
	l := open(t, d, 64)
	ahead := state(d)
	does(t, "next is MaxSeg", l.Roll(), api.ErrFull)
	if state(d) != ahead {
		t.Error("the disk has changed")
	}
	d = disk.New(10000)
	saved(t, d, 99999998, 5)
	l = open(t, d, 64)
	add(t, l, tomb("a"), 99999998, 13)
	loaded(t, "the last one", d, 99999999, 5, 99999998)
	does(t, "behind the last one", l.Roll(), api.ErrFull)
	has(t, "behind the last one", l, 99999998, 5, 99999998)
}

// P15.1, O2: there are no more than 1000 segments; when one is dropped there may be one more.
func TestRollOfManySegments(t *testing.T) {
	d := disk.New(100000)
	saved(t, d, 2000, rising(7, 999)...)
	l := open(t, d, 64)
	does(t, "999 are there", l.Roll(), api.OK)
	has(t, "1000 are there", l, 2000, append(rising(7, 999), 2000)...)
	done := d.Done()
	does(t, "1000 are there", l.Roll(), api.ErrFull)
	if d.Done() != done+1 {
		t.Error(d.Done()-done, "things were done")
	}
	add(t, l, sized("a", 50), 2000, 13)
	addFails(t, "1000 are there", l, sized("b", 50), api.ErrFull)
	x := open(t, d, 64)
	ahead := state(d)
	addFails(t, "1000 are there", x, tomb("b"), api.ErrFull)
	if state(d) != ahead {
		t.Error("the disk has changed")
	}
	has(t, "1000 are there", x, -1, append(rising(7, 999), 2000)...)
	does(t, "drop", l.Drop([]int{7}), api.OK)
	add(t, l, sized("b", 50), 2001, 13)
	does(t, "1000 are there again", l.Roll(), api.ErrFull)
	has(t, "1000 are there again", l, 2001, append(rising(8, 998), 2000, 2001)...)
}

// P15.1, O2: 1000 segments are made, one by one, each with what was added to it, and all but the last one with hints.
func TestRollUpToTheLast(t *testing.T) {
	d := disk.New(1 << 20)
	l := open(t, d, 64)
	for i := range 1000 {
		add(t, l, sized("a", 50), 1+i, 13)
	}
	addFails(t, "1001", l, sized("a", 50), api.ErrFull)
	has(t, "1000", l, 1000, rising(1, 1000)...)
	for n := range 999 {
		hinted(t, "1000", l, 1+n, api.Hint{Kind: 3, Key: "a", At: 13, Size: 50})
	}
	noHints(t, "1000", l, 1000)
	if len(d.List()) != 2000 {
		t.Error(len(d.List()), "files")
	}
}

// P15.1, O2: from the number on Next is one more, whatever comes: each Roll that fails behind it takes a number away, also when the disk is down.
func TestRollTakesNumbers(t *testing.T) {
	d := disk.New(10000)
	l := open(t, d, 64)
	d.Fail(0)
	does(t, "fails", l.Roll(), api.ErrIO)
	down(d)
	for range 3 {
		does(t, "down", l.Roll(), api.ErrDown)
	}
	d.Boot(0, nil)
	has(t, "failed", l, -1)
	files(t, "failed", d)
	add(t, l, tomb("a"), 5, 13)
	down(d)
	for range 3 {
		does(t, "down, with a last one", l.Roll(), api.ErrDown)
	}
	d.Boot(0, []int{99})
	does(t, "booted", l.Roll(), api.OK)
	has(t, "booted", l, 6, 5, 6)
	d.Fail(3)
	does(t, "fails at the manifest", l.Roll(), api.ErrIO)
	files(t, "fails at the manifest", d, "h00000005", "m", "s00000005", "s00000006", "s00000007")
	does(t, "a drop keeps the number", l.Drop([]int{5}), api.OK)
	loaded(t, "a drop keeps the number", d, 8, 6)
}

// P15.1, O2: a segment whose first frame has no room is taken away; one whose manifest has none is left there, and none of Segs.
func TestRollWithoutRoom(t *testing.T) {
	for room := range 200 {
		// The manifests have 19 and 23 bytes, and the hints of one key, of one byte, 37.
		d := disk.New(19 + 30 + room)
		l := open(t, d, 64)
		add(t, l, sized("a", 17), 1, 13)
		what := fmt.Sprint("room for ", room)
		e := l.Roll()
		switch {
		case room < 13:
			does(t, what, e, api.ErrFull)
			files(t, what, d, "m", "s00000001")
		case room < 13+23:
			does(t, what, e, api.ErrFull)
			files(t, what, d, "m", "s00000001", "s00000002", "t")
			has(t, what, l, 1, 1)
			loaded(t, what, d, 2, 1)
			l.Clean()
			files(t, what, d, "m", "s00000001")
		case room < 13+4+37:
			does(t, what, e, api.OK)
			has(t, what, l, 2, 1, 2)
			files(t, what, d, "h00000001", "m", "s00000001", "s00000002")
			noHints(t, what, l, 1)
			if len(content(t, d, "h00000001")) != 0 {
				t.Error(what, "hints are there")
			}
		default:
			does(t, what, e, api.OK)
			hinted(t, what, l, 1, api.Hint{Kind: 3, Key: "a", At: 13, Size: 17})
		}
	}
}

// P15.1, O2, and P2: a disk that has as many files as may be.
func TestRollOfManyFiles(t *testing.T) {
	for _, x := range []struct {
		there int
		want  api.Errno
		files int
	}{{4096, api.ErrTooMany, 4096}, {4095, api.ErrTooMany, 4096}, {4094, api.OK, 4096}, {4093, api.OK, 4095}} {
		d := disk.New(100000)
		l := open(t, d, 64)
		add(t, l, tomb("a"), 1, 13)
		for i := range x.there - 2 {
			lay(t, d, fmt.Sprint("x", i), nil)
		}
		what := fmt.Sprint(x.there, " files")
		does(t, what, l.Roll(), x.want)
		if n := len(d.List()); n != x.files {
			t.Error(what, n, "are there then")
		}
		if x.want == api.OK {
			has(t, what, l, 2, 1, 2)
		} else {
			has(t, what, l, 1, 1)
			d.Remove("x0")
			d.Remove("x1")
			l.Clean()
			add(t, l, sized("b", 50), 3, 13)
		}
	}
}

// P15.1, O2: a hints' file that is there already stays as it is, be it right, or not, and is not synced.
func TestRollWhereHintsAre(t *testing.T) {
	right := []api.Hint{{Kind: 4, Key: "z", At: 13, Size: 10}}
	for _, b := range [][]byte{nil, []byte("none"), hint.Put(right, 36)} {
		d := disk.New(10000)
		l := three(t, d)
		lay(t, d, "h00000003", b)
		done := d.Done()
		does(t, "roll", l.Roll(), api.OK)
		if d.Done() != done+8 || !bytes.Equal(content(t, d, "h00000003"), b) {
			t.Error(d.Done()-done, "things were done")
		}
		if len(b) < 10 {
			noHints(t, "roll", l, 3)
		} else {
			hinted(t, "roll", l, 3, right...)
		}
		d.Boot(99, nil)
		if len(content(t, d, "h00000003")) != 0 {
			t.Error("it was synced")
		}
	}
}

// P15.1, O2: hints are those of what seg.All finds then, of the segment as long as it is: of all kinds of records, of which some are spoilt, or torn at the end; of one that doesn't begin as it is to they are none.
func TestRollWritesHints(t *testing.T) {
	for i := range 300 {
		d := disk.New(100000)
		l := open(t, d, 100000)
		c := chance(i)
		for range c.below(30) {
			key := fmt.Sprint("k", c.below(9))
			r := []api.Rec{tomb(key), sized(key, 20+c.below(90)), root(key, api.Loc{Seg: 1, At: 13, N: 9}), piece(3, c.below(512), 1+c.below(50))}[c.below(4)]
			if _, _, _, e := l.Add(r); e != api.OK {
				t.Fatal(e)
			}
		}
		if _, is := l.Last(); !is {
			does(t, "roll", l.Roll(), api.OK)
		}
		if i%3 == 1 {
			d.Append("s00000001", noise(c.below(20), i))
		}
		if size := seg.Size(d, 1); i%3 == 2 {
			d.Flip("s00000001", 8*13+c.below(8*size), uint32(1+c.below(1<<20)))
		}
		if i%50 == 49 {
			d.Flip("s00000001", c.below(8*13), 1)
		}
		all, _, _ := seg.All(d, 1)
		want := hint.Put(hint.Of(all), seg.Size(d, 1))
		does(t, "roll", l.Roll(), api.OK)
		if !bytes.Equal(content(t, d, "h00000001"), want) || len(want) < 21 {
			t.Errorf("hints %x; want %x", content(t, d, "h00000001"), want)
		}
		hinted(t, "roll", l, 1, hint.Of(all)...)
		d.Boot(1, nil)
		hinted(t, "booted", l, 1, hint.Of(all)...)
	}
}

// P15.1, O2: the name of a hints' file is not kept until the next manifest is saved; without it all is as it was, and nobody writes it again.
func TestHintsOfABoot(t *testing.T) {
	d := disk.New(10000)
	l := three(t, d)
	does(t, "roll", l.Roll(), api.OK)
	d.Boot(0, nil)
	files(t, "booted", d, "h00000001", "h00000002", "m", "s00000001", "s00000002", "s00000003", "s00000004")
	l = open(t, d, 64)
	has(t, "booted", l, -1, 1, 2, 3, 4)
	noHints(t, "booted", l, 3)
	if _, is := l.Hints(2); !is {
		t.Error("hints were lost that were kept")
	}
	does(t, "roll", l.Roll(), api.OK)
	files(t, "nobody writes them again", d, "h00000001", "h00000002", "m", "s00000001", "s00000002", "s00000003", "s00000004", "s00000005")
}

// P15.1, O2, and P2: a last segment whose file is gone has Sync's error; nothing else is done.
func TestRollOfWhatIsGone(t *testing.T) {
	d := disk.New(10000)
	l := three(t, d)
	d.Remove("s00000003")
	ahead := state(d)
	does(t, "gone", l.Roll(), api.ErrNone)
	if state(d) != ahead {
		t.Error("the disk has changed")
	}
	has(t, "gone", l, 3, 1, 2, 3)
	lay(t, d, "s00000003", nil)
	does(t, "there again", l.Roll(), api.OK)
	has(t, "there again", l, 4, 1, 2, 3, 4)
	hinted(t, "of one of no bytes", l, 3)
	if !bytes.Equal(content(t, d, "h00000003"), hint.Put(nil, 0)) || !bytes.Equal(content(t, d, "m"), man.Put(api.Man{Segs: []int{1, 2, 3, 4}, Next: 5})) {
		t.Error("other bytes")
	}
}
