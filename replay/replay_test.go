package replay_test

import (
	"bytes"
	"fmt"
	"slices"
	"strings"
	"testing"

	"souterrain/api"
	"souterrain/disk"
	"souterrain/frame"
	"souterrain/log"
	"souterrain/rec"
	"souterrain/replay"
)

// chance tells numbers that look like no pattern, but are the same each time.
type chance uint64

func (c *chance) below(n int) int {
	*c = *c*6364136223846793005 + 1442695040888963407
	return int(uint64(*c) >> 33 % uint64(n))
}

func inline(key string, value string) api.Rec {
	return api.Rec{Kind: api.Inline, Key: key, B: []byte(value)}
}

func tomb(key string) api.Rec { return api.Rec{Kind: api.Tomb, Key: key} }

func piece(id int64, no int, n int) api.Rec {
	return api.Rec{Kind: api.Piece, Id: id, No: no, B: bytes.Repeat([]byte("p"), n)}
}

func root(key string, locs ...api.Loc) api.Rec {
	size := 0
	for _, l := range locs {
		size += l.N
	}
	return api.Rec{Kind: api.Root, Key: key, Id: 5, Size: size, Locs: locs}
}

// segFile and hintFile are names by the document's words.
func segFile(n int) string { return fmt.Sprintf("s%08d", n) }

func hintFile(n int) string { return fmt.Sprintf("h%08d", n) }

// brief is what a thing's text begins with, as there may be much of it.
func brief(x any) string {
	s := fmt.Sprintf("%+v", x)
	return s[:min(len(s), 300)]
}

// open expects a log of a disk.
func open(t *testing.T, d *disk.Disk, limit int) *log.Log {
	t.Helper()
	l, e := log.Open(d, limit)
	if l == nil || e != api.OK {
		t.Fatalf("open: %v, error %d", l, e)
	}
	return l
}

// does expects no error.
func does(t *testing.T, what string, e api.Errno) {
	t.Helper()
	if e != api.OK {
		t.Fatalf("%s: error %d", what, e)
	}
}

// add has a record stand in a log: where.
func add(t *testing.T, l *log.Log, r api.Rec) api.Place {
	t.Helper()
	n, at, size, e := l.Add(r)
	if e != api.OK {
		t.Fatalf("add %s: error %d", brief(r), e)
	}
	return api.Place{Seg: n, Hint: api.Hint{Kind: r.Kind, Key: r.Key, At: at, Size: size}}
}

// rolls has each of these lists of records stand in a segment of its own, from 1 on, the last one of which is the last one: where.
func rolls(t *testing.T, l *log.Log, lists ...[]api.Rec) [][]api.Place {
	t.Helper()
	var all [][]api.Place
	for _, list := range lists {
		does(t, "roll", l.Roll())
		var places []api.Place
		for _, r := range list {
			places = append(places, add(t, l, r))
		}
		all = append(all, places)
	}
	return all
}

// told are the hints of places, in this order.
func told(places ...api.Place) []api.Hint {
	var l []api.Hint
	for _, p := range places {
		l = append(l, p.Hint)
	}
	return l
}

// lay has a file of these bytes be there, and none that was.
func lay(t *testing.T, d *disk.Disk, name string, b []byte) {
	t.Helper()
	d.Remove(name)
	if d.Create(name) != api.OK || d.Append(name, b) != api.OK {
		t.Fatal("no file", name)
	}
}

// content is all bytes of a file.
func content(t *testing.T, d *disk.Disk, name string) []byte {
	t.Helper()
	n, _ := d.Size(name)
	b, e := d.Read(name, 0, n)
	if e != api.OK {
		t.Fatal(name, e)
	}
	return b
}

// behind has bytes stand at a file's end: where.
func behind(t *testing.T, d *disk.Disk, name string, b []byte) int {
	t.Helper()
	at, _ := d.Size(name)
	does(t, "append", d.Append(name, b))
	return at
}

// framed is a record's frame.
func framed(r api.Rec) []byte { return frame.Put(rec.Put(r)) }

// flip has a bit of a file turn.
func flip(t *testing.T, d *disk.Disk, name string, at int) {
	t.Helper()
	if !d.Flip(name, at, 1) {
		t.Fatal(name, "has no bit", at)
	}
}

// down has power have failed.
func down(d *disk.Disk) {
	d.Cut(0)
	d.SyncDir()
}

// state tells all of a disk that can be told: of one that is down, not what stands in its files.
func state(d *disk.Disk) string {
	s := fmt.Sprintln(d.Down(), d.Done(), d.Used())
	for _, name := range d.List() {
		n, _ := d.Size(name)
		b, e := d.Read(name, 0, n)
		s += fmt.Sprintf("%s %d %x %d\n", name, n, b, e)
	}
	return s
}

// hints expects these of a segment, of its file or not.
func hints(t *testing.T, what string, d *disk.Disk, l *log.Log, n int, file bool, want ...api.Hint) {
	t.Helper()
	if got, is := replay.Hints(d, l, n); is != file || !slices.Equal(got, want) {
		t.Errorf("%s: hints of %d: %s, %t; want %s, %t", what, n, brief(got), is, brief(want), file)
	}
}

// three is a log of the segments 1 to 3 on a disk, and where their records stand. No frame of one of a key is as long as another one's.
func three(t *testing.T, d *disk.Disk) (*log.Log, [][]api.Place) {
	t.Helper()
	l := open(t, d, 1<<20)
	places := rolls(t, l,
		[]api.Rec{inline("b", "1"), inline("a", "22"), inline("b", "333"), piece(5, 0, 7)},
		[]api.Rec{tomb("a"), root("r", api.Loc{Seg: 1, At: 57, N: 7}), tomb("cc")},
		[]api.Rec{inline("c", "4444")})
	if l.Segs()[2] != 3 || places[0][3].Hint.At != 13+12+13+14 {
		t.Fatal(l.Segs(), places)
	}
	return l, places
}

// P16.1, Q1: of a segment that has a file of hints these are told, and true; of one that has none what it has, and false: each key's last record, the least key first, and nothing of pieces.
func TestHints(t *testing.T) {
	d := disk.New(10000)
	l, at := three(t, d)
	first, second, third := told(at[0][1], at[0][2]), told(at[1][0], at[1][2], at[1][1]), told(at[2][0])
	hints(t, "three", d, l, 1, true, first...)
	hints(t, "three", d, l, 2, true, second...)
	hints(t, "three", d, l, 3, false, third...)
	does(t, "roll", l.Roll())
	hints(t, "rolled", d, l, 3, true, third...)
	hints(t, "rolled", d, l, 4, false)
	for n, want := range map[int][]api.Hint{1: first, 2: second, 3: third} {
		does(t, "remove", d.Remove(hintFile(n)))
		hints(t, "removed", d, l, n, false, want...)
	}
	for range 2 {
		l = open(t, d, 64)
		hints(t, "opened", d, l, 2, false, second...)
		hints(t, "opened", d, l, 3, false, third...)
	}
}

// P16.1, Q1: a file that says that there are no hints is one, too.
func TestHintsOfNoRecords(t *testing.T) {
	d := disk.New(10000)
	l := open(t, d, 1<<20)
	rolls(t, l, nil, []api.Rec{piece(1, 0, 9), piece(1, 1, 9)}, nil)
	hints(t, "no records", d, l, 1, true)
	hints(t, "pieces", d, l, 2, true)
	hints(t, "the last one", d, l, 3, false)
	for n := range 2 {
		does(t, "remove", d.Remove(hintFile(1+n)))
		hints(t, "removed", d, l, 1+n, false)
	}
}

// P16.1, Q1, and P16.2: a file of hints that is spoilt, too short, or too long, is as none.
func TestHintsOfSpoiltFiles(t *testing.T) {
	d := disk.New(10000)
	l, at := three(t, d)
	want := told(at[1][0], at[1][2], at[1][1])
	whole := content(t, d, hintFile(2))
	for bit := range 8 * len(whole) {
		flip(t, d, hintFile(2), bit)
		hints(t, fmt.Sprint("bit ", bit), d, l, 2, false, want...)
		flip(t, d, hintFile(2), bit)
	}
	hints(t, "turned back", d, l, 2, true, want...)
	for n := range len(whole) {
		lay(t, d, hintFile(2), whole[:n])
		hints(t, fmt.Sprint("cut at ", n), d, l, 2, false, want...)
	}
	lay(t, d, hintFile(2), append(slices.Clone(whole), 0))
	hints(t, "a byte more", d, l, 2, false, want...)
	lay(t, d, hintFile(2), content(t, d, hintFile(1)))
	hints(t, "another one's", d, l, 2, false, want...)
	lay(t, d, hintFile(2), whole)
	hints(t, "as it was", d, l, 2, true, want...)
}

// P16.1, Q1: hints of a segment of another length are as none: one to which was added, or of which the end is torn off.
func TestHintsOfAnotherLength(t *testing.T) {
	d := disk.New(10000)
	l, at := three(t, d)
	old := told(at[0][1], at[0][2])
	behind(t, d, segFile(1), []byte{0, 3})
	hints(t, "two bytes more", d, l, 1, false, old...)
	whole := content(t, d, segFile(1))[:at[0][3].Hint.At+24]
	lay(t, d, segFile(1), whole)
	hints(t, "as it was", d, l, 1, true, old...)
	from := behind(t, d, segFile(1), framed(tomb("b")))
	hints(t, "a tomb more", d, l, 1, false, at[0][1].Hint, api.Hint{Kind: api.Tomb, Key: "b", At: from, Size: 10})
	for n := range len(whole) {
		lay(t, d, segFile(1), whole[:n])
		var want []api.Hint
		switch b, a, again := at[0][0].Hint, at[0][1].Hint, at[0][2].Hint; {
		case n >= again.At+again.Size:
			want = []api.Hint{a, again}
		case n >= a.At+a.Size:
			want = []api.Hint{a, b}
		case n >= b.At+b.Size:
			want = []api.Hint{b}
		}
		hints(t, fmt.Sprint("cut at ", n), d, l, 1, false, want...)
	}
}

// P16.1, Q1: what a right file tells is told, whatever the segment has, and though it can't be read.
func TestHintsGoByTheFile(t *testing.T) {
	d := disk.New(10000)
	l, at := three(t, d)
	want := told(at[1][0], at[1][2], at[1][1])
	flip(t, d, segFile(2), 60)
	hints(t, "a spoilt first frame", d, l, 2, true, want...)
	flip(t, d, segFile(2), 60)
	flip(t, d, segFile(2), 8*(at[1][1].Hint.At+6))
	hints(t, "a spoilt record", d, l, 2, true, want...)
	does(t, "remove", d.Remove(hintFile(2)))
	hints(t, "a spoilt record, and no file", d, l, 2, false, told(at[1][0], at[1][2])...)
}

// P16.1, Q1, and P2: a segment of which seg.All has an error, and that has no hints, has none: its first frame is spoilt, cut, or another one's, or no file is there.
func TestHintsOfSpoiltSegments(t *testing.T) {
	d := disk.New(10000)
	l, at := three(t, d)
	third := told(at[2][0])
	for bit := range 8 * 13 {
		flip(t, d, segFile(3), bit)
		hints(t, fmt.Sprint("bit ", bit), d, l, 3, false)
		flip(t, d, segFile(3), bit)
	}
	hints(t, "turned back", d, l, 3, false, third...)
	whole := content(t, d, segFile(3))
	lay(t, d, segFile(3), content(t, d, segFile(2)))
	hints(t, "another one's", d, l, 3, false)
	for n := range 13 {
		lay(t, d, segFile(3), whole[:n])
		hints(t, fmt.Sprint("cut at ", n), d, l, 3, false)
	}
	does(t, "remove", d.Remove(segFile(3)))
	hints(t, "gone", d, l, 3, false)
	lay(t, d, segFile(3), whole)
	hints(t, "as it was", d, l, 3, false, third...)
	down(d)
	for n := range 5 {
		hints(t, "down", d, l, n, false)
	}
}

// P16.1, Q1: a record that is spoilt is passed by, so that one of its key ahead of it is the last one.
func TestHintsPassByWhatIsSpoilt(t *testing.T) {
	d := disk.New(10000)
	l, at := three(t, d)
	does(t, "remove", d.Remove(hintFile(1)))
	again := at[0][2].Hint
	for bit := 8 * (again.At + 4); bit < 8*(again.At+again.Size); bit++ {
		flip(t, d, segFile(1), bit)
		hints(t, fmt.Sprint("bit ", bit), d, l, 1, false, told(at[0][1], at[0][0])...)
		flip(t, d, segFile(1), bit)
	}
	hints(t, "turned back", d, l, 1, false, told(at[0][1], at[0][2])...)
}

// P16.1, Q1: a number that is none of Segs has no hints' file, but what its file has, if one is there.
func TestHintsOfNoSegment(t *testing.T) {
	d := disk.New(10000)
	l, at := three(t, d)
	for _, n := range oddNumbers() {
		hints(t, "no file", d, l, n, false)
	}
	does(t, "roll", l.Roll())
	want := told(at[1][0], at[1][2], at[1][1])
	h, s := content(t, d, hintFile(2)), content(t, d, segFile(2))
	hints(t, "a segment", d, l, 2, true, want...)
	does(t, "drop", l.Drop([]int{2}))
	hints(t, "dropped", d, l, 2, false)
	lay(t, d, hintFile(2), h)
	hints(t, "hints alone", d, l, 2, false)
	lay(t, d, segFile(2), s)
	hints(t, "nobody's files", d, l, 2, false, want...)
}

// oddNumbers are none of a small log's segments.
func oddNumbers() []int {
	return []int{0, 4, 99, 99999998, 99999999, 100000000, -1, -3, -1 << 63, 1<<63 - 1, 1<<32 + 1, 1<<32 + 2, 1<<31 - 1}
}

// P3: what was told is the caller's own, and nothing is done on the disk.
func TestHintsAreTheCallersOwn(t *testing.T) {
	d := disk.New(10000)
	l, _ := three(t, d)
	for n := 1; n <= 3; n++ {
		ahead := state(d)
		h, is := replay.Hints(d, l, n)
		want := slices.Clone(h)
		for i := range h[:cap(h)] {
			h[:cap(h)][i] = api.Hint{Kind: 9, Key: "z", At: 1, Size: 1}
		}
		hints(t, "overwritten", d, l, n, is, want...)
		if state(d) != ahead {
			t.Error("the disk has changed")
		}
	}
	d.Fail(0)
	replay.Hints(d, l, 1)
	if d.SyncDir() != api.ErrIO {
		t.Error("a thing was done")
	}
}

// P16.1, Q1: keys of all lengths, and of odd bytes, in order of these.
func TestHintsOfOddKeys(t *testing.T) {
	d := disk.New(100000)
	l := open(t, d, 1<<20)
	keys := []string{"\x00", "\x00\x00", "\xff", "\x80", "a", "A", "aa", "a\x00", "9", "10", "\xc3\xa4", strings.Repeat("k", 64), strings.Repeat("k", 63), strings.Repeat("\xff", 64)}
	does(t, "roll", l.Roll())
	var want []api.Hint
	for i, key := range keys {
		want = append(want, add(t, l, []api.Rec{tomb(key), inline(key, ""), root(key, api.Loc{N: 1})}[i%3]).Hint)
	}
	slices.SortFunc(want, func(x, y api.Hint) int { return bytes.Compare([]byte(x.Key), []byte(y.Key)) })
	hints(t, "odd keys", d, l, 1, false, want...)
	does(t, "roll", l.Roll())
	hints(t, "odd keys", d, l, 1, true, want...)
}
