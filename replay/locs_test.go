package replay_test

import (
	"fmt"
	"math"
	"slices"
	"strings"
	"testing"

	"souterrain/api"
	"souterrain/disk"
	"souterrain/frame"
	"souterrain/log"
	"souterrain/replay"
)

// locs expects these frames of a place.
func locs(t *testing.T, what string, l *log.Log, p api.Place, want ...api.Loc) {
	t.Helper()
	if got, e := replay.Locs(l, p); e != api.OK || !slices.Equal(got, want) {
		t.Errorf("%s: locs of %s: %s, error %d; want %s", what, brief(p), brief(got), e, brief(want))
	}
}

// locsFail expects none, and this error.
func locsFail(t *testing.T, what string, l *log.Log, p api.Place, want api.Errno) {
	t.Helper()
	if got, e := replay.Locs(l, p); e != want || len(got) != 0 {
		t.Errorf("%s: locs of %s: %s, error %d; want %d", what, brief(p), brief(got), e, want)
	}
}

// frameOf is a place's own frame.
func frameOf(p api.Place) api.Loc { return api.Loc{Seg: p.Seg, At: p.Hint.At, N: p.Hint.Size} }

// rooted is a place that says that a root of a key stands there.
func rooted(seg int, key string, at int, size int) api.Place {
	return api.Place{Seg: seg, Hint: api.Hint{Kind: api.Root, Key: key, At: at, Size: size}}
}

// P16.1, Q2: of a root its own frame, and those of its pieces, as long as these were when they were added, in the order in which the root tells of them.
func TestLocs(t *testing.T) {
	d := disk.New(100000)
	l := open(t, d, 64)
	var at []api.Loc
	var frames []api.Loc
	for no, n := range []int{1, 2, 17, 64, 4095, 4096} {
		p := add(t, l, piece(5, no, n))
		at = append(at, api.Loc{Seg: p.Seg, At: p.Hint.At, N: n})
		frames = append(frames, frameOf(p))
	}
	if frames[0].N != 18 || frames[5].N != 4113 || frames[5].Seg <= frames[0].Seg {
		t.Fatal(frames)
	}
	one := add(t, l, root("one", at[5]))
	all := add(t, l, root("all", at...))
	slices.Reverse(at)
	back := add(t, l, root("back", at...))
	locs(t, "one", l, one, frameOf(one), frames[5])
	locs(t, "all", l, all, append([]api.Loc{frameOf(all)}, frames...)...)
	slices.Reverse(frames)
	locs(t, "back", l, back, append([]api.Loc{frameOf(back)}, frames...)...)
	twice := add(t, l, root("twice", at[0], at[1], at[0]))
	locs(t, "twice", l, twice, frameOf(twice), frames[0], frames[1], frames[0])
	l = open(t, d, 64)
	locs(t, "opened", l, one, frameOf(one), frames[0])
}

// P16.1, Q2: a root of each number of pieces, up to as many as may be, wherever it says that they stand: that is asked by nobody.
func TestLocsOfEachNumber(t *testing.T) {
	d := disk.New(1 << 22)
	l := open(t, d, 1<<20)
	for _, n := range []int{1, 2, 3, 100, 511, 512} {
		var at, want []api.Loc
		for i := range n {
			x := api.Loc{Seg: []int{0, 1, 7, 99999999}[i%4], At: []int{0, 13, 1 << 30, i}[i/4%4], N: 1 + i%128}
			at = append(at, x)
			x.N += 17
			want = append(want, x)
		}
		p := add(t, l, root("k", at...))
		locs(t, fmt.Sprint(n, " pieces"), l, p, append([]api.Loc{frameOf(p)}, want...)...)
	}
	p := add(t, l, root("k", slices.Repeat([]api.Loc{{Seg: 5, At: 9, N: 4096}}, 16)...))
	locs(t, "long pieces", l, p, append([]api.Loc{frameOf(p)}, slices.Repeat([]api.Loc{{Seg: 5, At: 9, N: 4113}}, 16)...)...)
}

// P16.1, Q2: of each Kind but a Root its own frame alone, wherever it is to stand, and whatever stands there, if anything does, also while the disk is down.
func TestLocsOfOtherKinds(t *testing.T) {
	d := disk.New(10000)
	l, at := three(t, d)
	expect := func(what string) {
		t.Helper()
		for _, kind := range []int{api.Piece, api.Inline, api.Tomb, 0, -1, 5, 9, 2 + 1<<32, 258, math.MinInt, math.MaxInt} {
			for _, seg := range append(oddNumbers(), 1, 2, 3) {
				for _, h := range []api.Hint{{}, {Key: "r", At: at[1][1].Hint.At, Size: at[1][1].Hint.Size}, {Key: "a", At: 13, Size: 12}, {Key: "zz", At: -1, Size: -1}, {At: math.MaxInt, Size: math.MinInt}} {
					h.Kind = kind
					p := api.Place{Seg: seg, Hint: h}
					locs(t, what, l, p, frameOf(p))
				}
			}
		}
		for _, places := range at {
			for _, p := range places {
				if p.Hint.Kind != api.Root {
					locs(t, what, l, p, frameOf(p))
				}
			}
		}
	}
	expect("three")
	down(d)
	expect("down")
}

// P16.1, Q2: its own frame is told as the place tells it; nobody asks how long it is, in truth.
func TestLocsOfOddSizes(t *testing.T) {
	l, at := three(t, disk.New(10000))
	for _, size := range []int{0, 1, -1, 8201, math.MaxInt, math.MinInt} {
		p := at[1][1]
		p.Hint.Size = size
		locs(t, "odd size", l, p, api.Loc{Seg: 2, At: p.Hint.At, N: size}, api.Loc{Seg: 1, At: 57, N: 24})
	}
}

// P16.1, Q2, and P2: where a root of another key, or a record of another kind, stands, is ErrCorrupt.
func TestLocsOfOthers(t *testing.T) {
	d := disk.New(100000)
	l := open(t, d, 1<<20)
	long := strings.Repeat("k", 64)
	for _, key := range []string{"r", "rr", "R", "\x00", long} {
		p := add(t, l, root(key, api.Loc{Seg: 1, At: 13, N: 5}))
		locs(t, "right", l, p, frameOf(p), api.Loc{Seg: 1, At: 13, N: 22})
		for _, other := range []string{"", "r", "rr", "rrr", "R", "s", "\x00", "\x00\x00", long, long[1:], long + "k", strings.Repeat("long", 1000)} {
			p.Hint.Key = other
			if other != key {
				locsFail(t, "another key", l, p, api.ErrCorrupt)
			}
		}
		for _, r := range []api.Rec{inline(key, "1"), tomb(key), piece(5, 0, 9)} {
			p := add(t, l, r)
			p.Hint.Kind = api.Root
			locsFail(t, "another kind", l, p, api.ErrCorrupt)
			p.Hint.Key = key
			locsFail(t, "another kind, of that key", l, p, api.ErrCorrupt)
		}
	}
	p := rooted(1, "", 13+52, 9)
	for at := range 13 {
		p.Hint.At = at
		locsFail(t, "the first frame", l, p, api.ErrCorrupt)
	}
}

// P16.1, Q2, and P2: each error of Log.Get is told, and no frame beside it.
func TestLocsFail(t *testing.T) {
	d := disk.New(100000)
	l, at := three(t, d)
	p := at[1][1]
	end := content(t, d, segFile(2))
	for _, from := range []int{-1, math.MinInt, len(end), len(end) - 1, len(end) - 3, len(end) + 1, 1 << 30, math.MaxInt} {
		locsFail(t, "beyond", l, rooted(2, "r", from, 9), api.ErrArg)
	}
	for from := range len(end) - 3 {
		if from != p.Hint.At {
			locsFail(t, "where none stands", l, rooted(2, "r", from, 9), api.ErrCorrupt)
		}
	}
	for _, n := range oddNumbers() {
		locsFail(t, "no segment", l, rooted(n, "r", p.Hint.At, 9), api.ErrNone)
	}
	lay(t, d, segFile(9), end)
	locsFail(t, "nobody's", l, rooted(9, "r", p.Hint.At, 9), api.ErrNone)
	locs(t, "the segment", l, p, frameOf(p), api.Loc{Seg: 1, At: 57, N: 24})
	does(t, "remove", d.Remove(segFile(2)))
	locsFail(t, "gone", l, p, api.ErrNone)
	lay(t, d, segFile(2), end)
	locs(t, "back", l, p, frameOf(p), api.Loc{Seg: 1, At: 57, N: 24})
	down(d)
	locsFail(t, "down", l, p, api.ErrDown)
	locsFail(t, "down, and no segment", l, rooted(8, "r", 13, 9), api.ErrNone)
	d.Boot(99, []int{999})
	locs(t, "booted", l, p, frameOf(p), api.Loc{Seg: 1, At: 57, N: 24})
	does(t, "drop", l.Drop([]int{2}))
	locsFail(t, "dropped", l, p, api.ErrNone)
}

// P16.1, Q2: a root that is spoilt, or torn, has no frames.
func TestLocsOfSpoiltRoots(t *testing.T) {
	d := disk.New(100000)
	l := open(t, d, 1<<20)
	p := add(t, l, root("r", api.Loc{Seg: 1, At: 13, N: 5}, api.Loc{Seg: 1, At: 40, N: 6}))
	want := []api.Loc{frameOf(p), {Seg: 1, At: 13, N: 22}, {Seg: 1, At: 40, N: 23}}
	for bit := 8 * (p.Hint.At + 4); bit < 8*(p.Hint.At+p.Hint.Size); bit++ {
		flip(t, d, segFile(1), bit)
		locsFail(t, fmt.Sprint("bit ", bit), l, p, api.ErrCorrupt)
		flip(t, d, segFile(1), bit)
	}
	locs(t, "turned back", l, p, want...)
	whole := content(t, d, segFile(1))
	for n := p.Hint.At; n < len(whole); n++ {
		lay(t, d, segFile(1), whole[:n])
		if n < p.Hint.At+4 {
			locsFail(t, fmt.Sprint("cut at ", n), l, p, api.ErrArg)
		} else {
			locsFail(t, fmt.Sprint("cut at ", n), l, p, api.ErrShort)
		}
	}
	lay(t, d, segFile(1), whole)
	locs(t, "whole", l, p, want...)
}

// P16.1, Q2: a root of no pieces, or of one that can't be, is no right record, so that its frame is ErrCorrupt.
func TestLocsOfWrongRoots(t *testing.T) {
	d := disk.New(100000)
	l := open(t, d, 1<<20)
	does(t, "roll", l.Roll())
	ahead := []byte("\x02\x01r\x00\x00\x00\x00\x00\x05\x00\x00")
	for what, b := range map[string]string{"no pieces, of no size": "\x00\x00\x00", "no pieces": "\x01\x00\x00", "a piece of nothing": "\x00\x00\x01\x00\x00\x00\x01\x00\x00\x00\x0d\x00\x00", "sizes unlike": "\x05\x00\x01\x00\x00\x00\x01\x00\x00\x00\x0d\x00\x04"} {
		at := behind(t, d, segFile(1), frame.Put(append(slices.Clone(ahead), b...)))
		locsFail(t, what, l, rooted(1, "r", at, 9), api.ErrCorrupt)
	}
	at := behind(t, d, segFile(1), frame.Put(append(slices.Clone(ahead), "\x04\x00\x01\x00\x00\x00\x01\x00\x00\x00\x0d\x00\x04"...)))
	locs(t, "a right one", l, rooted(1, "r", at, 9), api.Loc{Seg: 1, At: at, N: 9}, api.Loc{Seg: 1, At: 13, N: 21})
	if n, _, _, e := l.Add(root("r")); n != 0 || e != api.ErrArg {
		t.Error(n, e)
	}
}

// P3: what was told is the caller's own; nothing is done on the disk, and what was handed in is as it was.
func TestLocsAreTheCallersOwn(t *testing.T) {
	d := disk.New(10000)
	l, at := three(t, d)
	d.Fail(0)
	ahead := state(d)
	for _, p := range []api.Place{at[0][1], at[1][1], at[1][0]} {
		got, _ := replay.Locs(l, p)
		want := slices.Clone(got)
		again, _ := replay.Locs(l, p)
		for i := range got[:cap(got)] {
			got[:cap(got)][i] = api.Loc{Seg: 8, At: 8, N: 8}
		}
		if !slices.Equal(again, want) {
			t.Error("told by two calls in one memory", p)
		}
		locs(t, "overwritten", l, p, want...)
	}
	if state(d) != ahead || d.SyncDir() != api.ErrIO {
		t.Error("the disk has changed")
	}
}
