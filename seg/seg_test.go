package seg_test

import (
	"bytes"
	"fmt"
	"hash/crc32"
	"math"
	"slices"
	"strings"
	"testing"

	"souterrain/api"
	"souterrain/disk"
	"souterrain/seg"
)

// chance tells numbers that look like no pattern, but are the same each time.
type chance uint64

func (c *chance) below(n int) int {
	*c = *c*6364136223846793005 + 1442695040888963407
	return int(uint64(*c) >> 33 % uint64(n))
}

// body is n bytes of all kinds; unlike seeds give unlike bytes.
func body(n int, seed uint64) []byte {
	c := chance(seed)
	b := make([]byte, n)
	for i := range b {
		b[i] = byte(c.below(256))
	}
	return b
}

// high is a number in so many bytes, the highest first.
func high(n int64, size int) []byte {
	b := make([]byte, size)
	for i := range size {
		b[size-1-i] = byte(n)
		n >>= 8
	}
	return b
}

// framed is the bytes that the document has a body's frame have.
func framed(b []byte) []byte {
	n := len(b)
	f := slices.Concat([]byte{byte(n >> 8), byte(n), 255 - byte(n>>8), 255 - byte(n)}, b)
	s := crc32.Checksum(f, crc32.MakeTable(crc32.Castagnoli))
	return append(f, byte(s), byte(s>>8), byte(s>>16), byte(s>>24))
}

// written is the bytes that the document has a right record have.
func written(r api.Rec) []byte {
	key := append([]byte{byte(len(r.Key))}, r.Key...)
	switch r.Kind {
	case 1:
		return slices.Concat([]byte{1}, high(r.Id, 6), high(int64(r.No), 2), r.B)
	case 2:
		b := slices.Concat([]byte{2}, key, high(r.Id, 6), high(int64(r.Size), 3), high(int64(len(r.Locs)), 2))
		for _, l := range r.Locs {
			b = slices.Concat(b, high(int64(l.Seg), 4), high(int64(l.At), 4), high(int64(l.N), 2))
		}
		return b
	case 3:
		return slices.Concat([]byte{3}, key, r.B)
	}
	return append([]byte{4}, r.Key...)
}

// first is a segment's first frame, and file its name, by the document's words.
func first(n int) []byte { return framed(append([]byte{9}, high(int64(n), 4)...)) }

func file(n int) string { return fmt.Sprintf("s%08d", n) }

func piece(id int64, no int, b []byte) api.Rec {
	return api.Rec{Kind: api.Piece, Id: id, No: no, B: b}
}

func root(key string, id int64, locs ...api.Loc) api.Rec {
	size := 0
	for _, l := range locs {
		size += l.N
	}
	return api.Rec{Kind: api.Root, Key: key, Id: id, Size: size, Locs: locs}
}

func inline(key string, b []byte) api.Rec { return api.Rec{Kind: api.Inline, Key: key, B: b} }

func tomb(key string) api.Rec { return api.Rec{Kind: api.Tomb, Key: key} }

// rights are right records of all kinds, the shortest and the longest among them, and such that look like something else.
func rights() []api.Rec {
	long := strings.Repeat("k", 64)
	return []api.Rec{
		tomb("a"), tomb(long), tomb("\x00"), tomb("\x09\x00\x00\x00\x07"),
		inline("ab", nil), inline("ab", []byte("xyz")), inline(long, body(4096, 1)), inline("in", framed(written(tomb("in")))), inline("in", first(7)),
		piece(0, 0, []byte{0}), piece(1<<40, 511, body(4096, 2)), piece(5, 3, framed([]byte("p"))), piece(9, 0, bytes.Repeat([]byte{0, 1, 255, 254}, 9)),
		root("r", 1, api.Loc{Seg: 7, At: 13, N: 1}), root(long, 1<<40, slices.Repeat([]api.Loc{{Seg: 99999999, At: 1 << 30, N: 128}}, 512)...), root("r", 2, api.Loc{N: 4096}, api.Loc{Seg: 1, At: 2, N: 3}),
	}
}

// few are right records whose frames are short.
func few() []api.Rec {
	return []api.Rec{tomb("ab"), inline("c", []byte("xyz")), piece(5, 1, []byte("pq")), root("d", 5, api.Loc{Seg: 7, At: 13, N: 2}), tomb("ab"), inline("e", nil)}
}

// wrongs are records that are not right.
func wrongs() []api.Rec {
	return []api.Rec{
		{}, {Kind: 5, Key: "a"}, {Kind: 9, Key: "a"}, {Kind: -1}, {Kind: math.MaxInt},
		tomb(""), tomb(strings.Repeat("k", 65)), {Kind: api.Tomb, Key: "a", B: []byte("b")}, {Kind: api.Tomb, Key: "a", Id: 1},
		inline("", []byte("x")), inline("a", make([]byte, 4097)), {Kind: api.Inline, Key: "a", Size: 1},
		piece(-1, 0, []byte("x")), piece(1<<40+1, 0, []byte("x")), piece(1, 512, []byte("x")), piece(1, -1, []byte("x")), piece(1, 0, nil), piece(1, 0, make([]byte, 4097)),
		root("r", 1), {Kind: api.Root, Key: "r", Size: 2, Locs: []api.Loc{{N: 1}}}, root("r", 1, api.Loc{Seg: 100000000, N: 1}), root("r", 1, api.Loc{At: 1<<30 + 1, N: 1}), root("r", 1, slices.Repeat([]api.Loc{{N: 1}}, 513)...),
	}
}

// noNumbers are no segments' numbers.
func noNumbers() []int {
	return []int{-1, -7, 100000000, 100000007, 1 << 31, 1 << 32, 1<<32 + 7, -1 << 32, math.MinInt, math.MaxInt}
}

// same is whether two records are alike; an empty list is like none.
func same(x, y api.Rec) bool {
	return x.Kind == y.Kind && x.Key == y.Key && x.Id == y.Id && x.No == y.No && x.Size == y.Size &&
		slices.Equal(x.Locs, y.Locs) && bytes.Equal(x.B, y.B)
}

func sameFound(x, y api.Found) bool { return x.At == y.At && x.Size == y.Size && same(x.R, y.R) }

// brief tells the beginning of a thing.
func brief(x any) string {
	s := fmt.Sprintf("%v", x)
	return s[:min(len(s), 200)]
}

// held is a disk of which the segment 7 is made, and what is to be found there.
type held struct {
	t    *testing.T
	d    *disk.Disk
	want []api.Found
	end  int
}

const seven = "s00000007"

func hold(t *testing.T, most int, l ...api.Rec) *held {
	t.Helper()
	h := &held{t: t, d: disk.New(most), end: 13}
	if e := seg.Make(h.d, 7); e != api.OK {
		t.Fatal(e)
	}
	for _, r := range l {
		h.add(r)
	}
	return h
}

// add adds a record, which is to be the last one.
func (h *held) add(r api.Rec) {
	h.t.Helper()
	size := len(written(r)) + 8
	at, n, e := seg.Add(h.d, 7, r)
	if at != h.end || n != size || e != api.OK {
		h.t.Fatalf("add %s: %d, %d, error %d; want %d, %d", brief(r), at, n, e, h.end, size)
	}
	h.want = append(h.want, api.Found{At: at, Size: n, R: r})
	h.end += n
}

// bytes is the whole file.
func (h *held) bytes() []byte {
	h.t.Helper()
	n, _ := h.d.Size(seven)
	b, e := h.d.Read(seven, 0, n)
	if e != api.OK {
		h.t.Fatal(e)
	}
	return b
}

// got expects a record to be got at its place.
func (h *held) got(what string, f api.Found) {
	h.t.Helper()
	if r, e := seg.Get(h.d, 7, f.At); e != api.OK || !same(r, f.R) {
		h.t.Errorf("%s, get at %d: %s, error %d; want %s", what, f.At, brief(r), e, brief(f.R))
	}
}

// refused expects an error of Get at a place, and nothing beside it.
func (h *held) refused(what string, n, at int, want api.Errno) {
	h.t.Helper()
	if r, e := seg.Get(h.d, n, at); e != want || !same(r, api.Rec{}) || r.B != nil || r.Locs != nil {
		h.t.Errorf("%s, get of %d at %d: %s, error %d; want %d", what, n, at, brief(r), e, want)
	}
}

// all expects All to tell these, and that so many frames have none.
func (h *held) all(what string, want []api.Found, bad int) {
	h.t.Helper()
	l, n, e := seg.All(h.d, 7)
	if e != api.OK || n != bad || !slices.EqualFunc(l, want, sameFound) {
		h.t.Errorf("%s, all: %s, %d, error %d; want %s, %d", what, brief(l), n, e, brief(want), bad)
	}
}

// noneOf expects an error of All, and nothing beside it.
func noneOf(t *testing.T, what string, d *disk.Disk, n int, want api.Errno) {
	t.Helper()
	if l, bad, e := seg.All(d, n); len(l) != 0 || bad != 0 || e != want {
		t.Errorf("%s, all of %d: %s, %d, error %d; want %d", what, n, brief(l), bad, e, want)
	}
}

// right expects all that was added to be there, and got.
func (h *held) right(what string) {
	h.t.Helper()
	h.all(what, h.want, 0)
	for _, f := range h.want {
		h.got(what, f)
	}
	if n := seg.Size(h.d, 7); n != h.end {
		h.t.Errorf("%s: size %d; want %d", what, n, h.end)
	}
}

// laid is a disk whose segment 7 is a file of these bytes.
func laid(t *testing.T, b ...[]byte) *held {
	t.Helper()
	h := &held{t: t, d: disk.New(api.MaxDisk)}
	all := slices.Concat(b...)
	if h.d.Create(seven) != api.OK || h.d.Append(seven, all) != api.OK {
		t.Fatal("no file")
	}
	h.end = len(all)
	return h
}

// P9.1, I1 and I2: the document's example, and a file's bytes, written out by hand.
func TestExample(t *testing.T) {
	h := hold(t, 1000)
	h.add(tomb("ab"))
	h.add(inline("ab", []byte("xy")))
	if h.want[0].At != 13 || h.want[0].Size != 11 || h.want[1].At != 24 || h.want[1].Size != 14 {
		t.Error(h.want)
	}
	b := h.bytes()
	for _, x := range []struct {
		at   int
		want string
	}{
		{0, "\x00\x05\xff\xfa\x09\x00\x00\x00\x07"},
		{13, "\x00\x03\xff\xfc\x04ab"},
		{24, "\x00\x06\xff\xf9\x03\x02abxy"},
	} {
		if got := string(b[x.at : x.at+len(x.want)]); got != x.want {
			t.Errorf("at %d: % x; want % x", x.at, got, x.want)
		}
	}
	if want := slices.Concat(first(7), framed(written(tomb("ab"))), framed(written(inline("ab", []byte("xy"))))); !bytes.Equal(b, want) {
		t.Errorf("% x; want % x", b, want)
	}
}

// P9.1, I1: the first and the last number, and ones at which the number's bytes turn over: each segment is a file of its name, that begins with its number.
func TestMake(t *testing.T) {
	numbers := []int{0, 1, 7, 255, 256, 257, 65535, 65536, 1<<24 - 1, 1 << 24, 1<<24 + 258, 99999998, 99999999}
	d := disk.New(10000)
	for i, n := range numbers {
		if e := seg.Make(d, n); e != api.OK {
			t.Fatal(n, e)
		}
		b, e := d.Read(file(n), 0, 13)
		if e != api.OK || !bytes.Equal(b, first(n)) {
			t.Errorf("%d: % x, error %d; want % x", n, b, e, first(n))
		}
		if got := seg.Size(d, n); got != 13 || d.Used() != 13*(i+1) || len(d.List()) != i+1 || d.Done() != 2*(i+1) {
			t.Error(n, got, d.Used(), d.List(), d.Done())
		}
		if l, bad, e := seg.All(d, n); len(l) != 0 || bad != 0 || e != api.OK {
			t.Error(n, l, bad, e)
		}
	}
}

// P9.1, I1, and P2: what is no number has ErrArg, ahead of all that a disk may have, and no file.
func TestMakeOfNoNumber(t *testing.T) {
	for _, n := range noNumbers() {
		d := disk.New(1000)
		d.Fail(0)
		if e := seg.Make(d, n); e != api.ErrArg || len(d.List()) != 0 || d.Done() != 0 {
			t.Error(n, e, d.List(), d.Done())
		}
		if e := d.SyncDir(); e != api.ErrIO {
			t.Error(n, "what was to fail was something else", e)
		}
		d.Cut(0)
		d.SyncDir()
		if e := seg.Make(d, n); e != api.ErrArg || !d.Down() {
			t.Error(n, "down", e)
		}
	}
}

// P9.1, I1, and P2: one that is there already stays as it is, whatever stands in it.
func TestMakeAgain(t *testing.T) {
	h := hold(t, 100000, rights()...)
	for range 2 {
		if e := seg.Make(h.d, 7); e != api.ErrThere {
			t.Error(e)
		}
		h.right("made again")
	}
	h = laid(t)
	if e := seg.Make(h.d, 7); e != api.ErrThere || seg.Size(h.d, 7) != 0 {
		t.Error(e, seg.Size(h.d, 7))
	}
}

// P9.1, I1: what goes wrong while one is made: which error it has, and whether the name is there all the same.
func TestMakeGoesWrong(t *testing.T) {
	for _, x := range []struct {
		what            string
		most, fail, cut int
		want            api.Errno
		there, down     bool
		done            int
	}{
		{"create fails", 99, 0, -1, api.ErrIO, false, false, 0},
		{"append fails", 99, 1, -1, api.ErrIO, false, false, 2},
		{"nothing fails", 99, 2, -1, api.OK, true, false, 2},
		{"create is cut", 99, -1, 0, api.ErrDown, false, true, 0},
		{"append is cut, and so is remove", 99, -1, 1, api.ErrDown, true, true, 1},
		{"append fails, remove is cut", 99, 1, 2, api.ErrIO, true, true, 1},
		{"append fails and is cut", 99, 1, 1, api.ErrDown, true, true, 1},
		{"nothing is cut", 99, -1, 2, api.OK, true, false, 2},
		{"full", 12, -1, -1, api.ErrFull, false, false, 2},
		{"full, of nothing", 0, -1, -1, api.ErrFull, false, false, 2},
		{"full, create fails", 12, 0, -1, api.ErrIO, false, false, 0},
		{"full, remove fails", 12, 1, -1, api.ErrFull, true, false, 1},
		{"full, remove is cut", 12, -1, 1, api.ErrFull, true, true, 1},
		{"just not full", 13, -1, -1, api.OK, true, false, 2},
	} {
		d := disk.New(x.most)
		d.Fail(x.fail)
		d.Cut(x.cut)
		e := seg.Make(d, 7)
		size := 0
		if x.want == api.OK {
			size = 13
		}
		if there := len(d.List()) == 1; e != x.want || there != x.there || d.Down() != x.down || d.Done() != x.done || seg.Size(d, 7) != size {
			t.Errorf("%s: error %d, files %q, down %t, %d done, size %d", x.what, e, d.List(), d.Down(), d.Done(), seg.Size(d, 7))
		}
		d.Boot(9, nil)
		if x.there && x.want != api.OK {
			noneOf(t, x.what, d, 7, api.ErrCorrupt)
		}
	}
}

// P9.1, I1: there may be too many files for one more, and then there is.
func TestMakeOfTooMany(t *testing.T) {
	d := disk.New(1000)
	for i := range api.MaxFiles {
		d.Create(fmt.Sprint("x", i))
	}
	if e := seg.Make(d, 7); e != api.ErrTooMany || seg.Size(d, 7) != 0 {
		t.Error(e)
	}
	d.Remove("x5")
	if e := seg.Make(d, 7); e != api.OK || seg.Size(d, 7) != 13 {
		t.Error(e)
	}
}

// P9.1, I2: how long a file is, whatever it has, whether power has failed, or not; 0 of what is none.
func TestSize(t *testing.T) {
	h := hold(t, 1000)
	for i := range 20 {
		h.d.Append(seven, []byte{byte(i)})
		if n := seg.Size(h.d, 7); n != 14+i {
			t.Error(n)
		}
	}
	h.d.Create("s")
	h.d.Append("s", []byte("x"))
	h.d.Create("h00000008")
	h.d.Append("h00000008", []byte("x"))
	for _, n := range append(noNumbers(), 0, 8, 99999999) {
		if got := seg.Size(h.d, n); got != 0 {
			t.Error(n, got)
		}
	}
	h.d.Cut(0)
	h.d.SyncDir()
	if n := seg.Size(h.d, 7); n != 33 || seg.Size(h.d, 8) != 0 {
		t.Error("down", n)
	}
}

// P9.1, I2, and P9.2: records of all kinds stand one behind the other, as the document has them be written, and each is got, and found, at its place.
func TestThereAndBack(t *testing.T) {
	h := hold(t, api.MaxDisk)
	h.right("nothing was added")
	want := first(7)
	for _, r := range rights() {
		h.add(r)
		h.right("added")
		want = slices.Concat(want, framed(written(r)))
	}
	if !bytes.Equal(h.bytes(), want) {
		t.Error("the file is not as it is to be")
	}
	h = hold(t, api.MaxDisk)
	l := rights()
	slices.Reverse(l)
	for _, r := range slices.Concat(l, rights(), few(), few()) {
		h.add(r)
	}
	h.right("the other way round")
}

// P9.2: a great many records, one of which is often another one's again.
func TestManyRecords(t *testing.T) {
	h := hold(t, api.MaxDisk)
	c := chance(3)
	l := append(rights(), few()...)
	for i := range 2000 {
		h.add(l[c.below(len(l))])
		h.add(inline(fmt.Sprint(i), body(c.below(30), uint64(i))))
	}
	h.right("many")
}

// P9.2: segments of one disk are each their own, be their records added in turn.
func TestManySegments(t *testing.T) {
	d := disk.New(api.MaxDisk)
	numbers := []int{0, 7, 8, 70, 1 << 24, 99999999}
	want := make([][]api.Found, len(numbers))
	end := make([]int, len(numbers))
	for i, n := range numbers {
		if e := seg.Make(d, n); e != api.OK {
			t.Fatal(e)
		}
		end[i] = 13
	}
	c := chance(8)
	for k := range 300 {
		i := c.below(len(numbers))
		r := inline(fmt.Sprint("k", k), body(c.below(20), uint64(k)))
		at, n, e := seg.Add(d, numbers[i], r)
		if at != end[i] || e != api.OK {
			t.Fatal(at, e)
		}
		want[i] = append(want[i], api.Found{At: at, Size: n, R: r})
		end[i] += n
	}
	for i, n := range numbers {
		l, bad, e := seg.All(d, n)
		if bad != 0 || e != api.OK || !slices.EqualFunc(l, want[i], sameFound) || seg.Size(d, n) != end[i] {
			t.Errorf("%d: %s, %d, %d; want %s", n, brief(l), bad, e, brief(want[i]))
		}
		for _, f := range want[i] {
			if r, e := seg.Get(d, n, f.At); e != api.OK || !same(r, f.R) {
				t.Error(n, f.At, brief(r), e)
			}
		}
	}
}

// notAdded expects an error of Add, and nothing beside it.
func notAdded(t *testing.T, what string, d *disk.Disk, n int, r api.Rec, want api.Errno) {
	t.Helper()
	if at, size, e := seg.Add(d, n, r); at != 0 || size != 0 || e != want {
		t.Errorf("%s, add to %d: %d, %d, error %d; want %d", what, n, at, size, e, want)
	}
}

// P9.1, I2, and P2: a record that isn't right has ErrArg, ahead of all that a disk may have; nothing has changed.
func TestAddOfWrongRecords(t *testing.T) {
	for _, r := range wrongs() {
		h := hold(t, 100000, few()...)
		h.d.Fail(0)
		for _, n := range append(noNumbers(), 7, 8) {
			notAdded(t, brief(r), h.d, n, r, api.ErrArg)
		}
		if e := h.d.SyncDir(); e != api.ErrIO {
			t.Error("what was to fail was something else", e)
		}
		h.right(brief(r))
		h.d.Cut(0)
		h.d.SyncDir()
		notAdded(t, brief(r)+", down", h.d, 7, r, api.ErrArg)
	}
}

// P9.1, I2, and P2: a disk's errors, with which nothing has changed; what is added again then is there.
func TestAddGoesWrong(t *testing.T) {
	h := hold(t, 13+11+20, tomb("ab"))
	for _, n := range append(noNumbers(), 0, 8, 99999999) {
		notAdded(t, "no segment", h.d, n, tomb("a"), api.ErrNone)
	}
	full := inline("c", make([]byte, 10))
	notAdded(t, "full", h.d, 7, full, api.ErrFull)
	h.d.Fail(0)
	notAdded(t, "full", h.d, 7, full, api.ErrFull)
	notAdded(t, "it fails", h.d, 7, tomb("a"), api.ErrIO)
	h.right("nothing was added")
	h.add(tomb("a"))
	h.d.Fail(1)
	h.d.Cut(1)
	h.add(tomb("b"))
	h.right("two were added")
	notAdded(t, "cut", h.d, 7, full, api.ErrFull)
	h.d.Remove("none")
	notAdded(t, "cut", h.d, 8, tomb("a"), api.ErrNone)
	h.d.SyncDir()
	notAdded(t, "down", h.d, 7, tomb("a"), api.ErrDown)
	notAdded(t, "down", h.d, 7, full, api.ErrDown)
	notAdded(t, "down", h.d, 8, tomb("a"), api.ErrDown)
	notAdded(t, "down", h.d, -1, tomb("a"), api.ErrDown)
	h.d.Boot(9, []int{99})
	h.right("behind a boot")
}

// P9.1, I2: where a record stands hangs on how long the file is alone, whatever it has.
func TestAddBehindAnything(t *testing.T) {
	for _, b := range [][]byte{nil, []byte("x"), first(8), first(7)[:9], body(300, 4)} {
		h := laid(t, b)
		h.add(tomb("ab"))
		h.add(inline("c", []byte("xyz")))
		for _, f := range h.want {
			h.got("behind anything", f)
		}
		noneOf(t, "behind anything", h.d, 7, api.ErrCorrupt)
	}
}

// at is what Get is to tell at a place of bytes, by the document's words.
func at(b []byte, from int) (body []byte, e api.Errno) {
	if from < 0 || from > len(b)-4 {
		return nil, api.ErrArg
	}
	f := b[from:]
	n := int(f[0])*256 + int(f[1])
	if n < 1 || n > 8192 || int(f[2]) != 255-int(f[0]) || int(f[3]) != 255-int(f[1]) {
		return nil, api.ErrCorrupt
	}
	if len(f) < n+8 {
		return nil, api.ErrShort
	}
	if !bytes.Equal(framed(f[4:4+n]), f[:n+8]) {
		return nil, api.ErrCorrupt
	}
	return f[4 : 4+n], api.OK
}

// asAt expects Get to tell, at each place of the file, and on both sides of it, what stands there: of records those whose bytes it has.
func (h *held) asAt(what string, of map[string]api.Rec) {
	h.t.Helper()
	b := h.bytes()
	for from := -5; from <= len(b)+5; from++ {
		body, e := at(b, from)
		r, is := of[string(body)]
		switch {
		case e != api.OK:
			h.refused(what, 7, from, e)
		case !is:
			h.refused(what, 7, from, api.ErrCorrupt)
		default:
			h.got(what, api.Found{At: from, R: r})
		}
	}
}

// byBytes are records by their bytes.
func byBytes(l ...api.Rec) map[string]api.Rec {
	of := map[string]api.Rec{}
	for _, r := range l {
		of[string(written(r))] = r
	}
	return of
}

// P9.1, I3: at each place of a file, in the midst of frames too, and beside it.
func TestGetAtEachPlace(t *testing.T) {
	l := append(few(), inline("in", framed(written(tomb("x")))), inline("in", first(7)), piece(1, 0, bytes.Repeat([]byte{0, 1, 255, 254}, 20)), piece(1, 1, framed([]byte("none"))))
	of := byBytes(append(l, tomb("x"))...)
	h := hold(t, 10000, l...)
	h.asAt("whole", of)
	whole := h.bytes()
	for n := range len(whole) {
		laid(t, whole[:n]).asAt("cut", of)
	}
	for seed := range uint64(300) {
		b := bytes.Clone(whole)
		b[seed%uint64(len(b))] ^= byte(1 + seed%255)
		laid(t, b).asAt("turned", of)
		laid(t, body(40, seed)).asAt("any bytes", of)
	}
}

// P9.1, I3: a frame that stands in another one's body is got at its own place.
func TestGetInsideABody(t *testing.T) {
	h := hold(t, 1000, inline("in", framed(written(tomb("x")))))
	h.got("inside", api.Found{At: 13 + 4 + 4, R: tomb("x")})
	h.right("outside")
}

// P9.1, I3, and P2: places outside of the file, at all edges of numbers.
func TestGetOutside(t *testing.T) {
	h := hold(t, 100000, rights()...)
	for _, from := range []int{-1, -4, -13, math.MinInt, math.MinInt + 1, -1 << 32, 1<<32 + 13, h.end - 3, h.end - 2, h.end - 1, h.end, h.end + 1, h.end + 13, 1 << 31, 1 << 32, math.MaxInt - 4, math.MaxInt - 3, math.MaxInt} {
		h.refused("outside", 7, from, api.ErrArg)
	}
	empty := laid(t)
	for from := -4; from < 5; from++ {
		empty.refused("of an empty file", 7, from, api.ErrArg)
	}
}

// P9.1, I3: a frame's beginning, of each length, behind which too little stands, is short; what is none is corrupt, however much stands behind it.
func TestGetOfBeginnings(t *testing.T) {
	for n := range 1 << 16 {
		if n > 600 && n < 8000 && n%97 > 0 || n > 8400 && n%251 > 0 {
			continue
		}
		head := []byte{byte(n >> 8), byte(n), ^byte(n >> 8), ^byte(n)}
		want := api.ErrShort
		if n < 1 || n > 8192 {
			want = api.ErrCorrupt
		}
		laid(t, head).refused("alone", 7, 0, want)
		laid(t, []byte("ab"), head, make([]byte, min(n, 8192)+3)).refused("one byte is missing", 7, 2, want)
		laid(t, []byte("ab"), head, make([]byte, min(n, 8192)+4)).refused("sum of zeros", 7, 2, api.ErrCorrupt)
		for i := range 4 {
			turned := bytes.Clone(head)
			turned[i] ^= byte(1 << (n % 8))
			laid(t, turned).refused("unlike copies", 7, 0, api.ErrCorrupt)
		}
	}
	h := laid(t, framed(written(rights()[6])))
	h.got("a whole one", api.Found{At: 0, R: rights()[6]})
}

// P9.1, I3: a body that is no record's is corrupt, the first frame's too.
func TestGetOfNoRecord(t *testing.T) {
	for _, b := range noRecords() {
		h := laid(t, first(7), framed(b), framed(written(tomb("a"))))
		h.refused("no record", 7, 13, api.ErrCorrupt)
		h.refused("the first frame", 7, 0, api.ErrCorrupt)
		h.got("behind it", api.Found{At: 13 + len(b) + 8, R: tomb("a")})
	}
}

// noRecords are bodies that are no record's.
func noRecords() [][]byte {
	return [][]byte{{0}, {4}, {5, 'a'}, {9, 0, 0, 0, 7}, {9, 0, 0, 0, 8}, {3, 2, 'a'}, []byte("none"), append([]byte{4}, make([]byte, 65)...), make([]byte, 8192), {1, 0, 0, 0, 0, 0, 1, 0, 1}}
}

// P9.1, I3 and I4, and P2: what is not there has ErrNone; all have ErrDown, when power has failed.
func TestNoSegment(t *testing.T) {
	h := hold(t, 1000, few()...)
	h.d.Create("h00000009")
	h.d.Append("h00000009", first(9))
	check := func(n int, want api.Errno) {
		t.Helper()
		for _, from := range []int{-1, 0, 13, 1 << 40} {
			h.refused("no segment", n, from, want)
		}
		noneOf(t, "no segment", h.d, n, want)
	}
	none := append(noNumbers(), 0, 6, 8, 9, 70, 99999999)
	for _, n := range none {
		check(n, api.ErrNone)
	}
	h.right("beside them")
	h.d.Cut(0)
	h.d.SyncDir()
	for _, n := range append(none, 7) {
		check(n, api.ErrDown)
	}
	h.d.Boot(9, []int{999})
	h.right("behind a boot")
	h.d.Remove(seven)
	check(7, api.ErrNone)
}

// P9.1, I4: a file that doesn't begin with its own first frame, whole and as it was written, is corrupt, whatever stands behind.
func TestAllOfNoSegment(t *testing.T) {
	spoilt := first(7)
	spoilt[8] ^= 1
	one := framed(written(tomb("a")))
	for what, b := range map[string][]byte{
		"empty":                 nil,
		"one byte":              {0},
		"the length alone":      first(7)[:4],
		"torn":                  first(7)[:12],
		"spoilt":                spoilt,
		"of another number":     first(8),
		"of the number 0":       first(0),
		"a record":              one,
		"without a frame":       {9, 0, 0, 0, 7},
		"a shorter body":        framed([]byte{9, 0, 0, 7}),
		"its body's beginning":  framed([]byte{9, 0, 0, 0}),
		"its body's first byte": framed([]byte{9}),
		"a longer body":         framed([]byte{9, 0, 0, 0, 7, 0}),
		"number the other way":  framed([]byte{9, 7, 0, 0, 0}),
		"another first byte":    framed([]byte{8, 0, 0, 0, 7}),
		"a byte ahead":          append([]byte{0}, first(7)...),
		"a record ahead":        slices.Concat(one, first(7)),
		"a spoilt one ahead":    slices.Concat(spoilt, first(7)),
		"another number's":      slices.Concat(first(70), first(7)),
		"many bytes of nothing": make([]byte, 1000),
	} {
		noneOf(t, what, laid(t, b).d, 7, api.ErrCorrupt)
		noneOf(t, what+", and more", laid(t, b, one, first(7), one).d, 7, api.ErrCorrupt)
	}
	laid(t, first(7)).all("its own one", nil, 0)
	laid(t, first(7), one).all("its own one", []api.Found{{At: 13, Size: 10, R: tomb("a")}}, 0)
}

// part is bytes behind a first frame: of a letter r is a record, s one that is spoilt, n a body that is none's, f the first frame again.
func part(letter rune, i int) (api.Rec, []byte) {
	r := few()[i%len(few())]
	b := framed(written(r))
	switch letter {
	case 's':
		b[4+i%(len(b)-4)] ^= byte(1 + i%255)
	case 'n':
		b = framed(noRecords()[i%8])
	case 'f':
		b = first(7)
	}
	return r, b
}

// P9.1, I4: records, and frames that have none, in all orders; a file may end anyhow.
func TestAllOfAllOrders(t *testing.T) {
	all := []string{""}
	for from, n := 0, 5; n > 0; n-- {
		last := all[from:]
		from = len(all)
		for _, s := range last {
			all = append(all, s+"r", s+"s", s+"n", s+"f")
		}
	}
	torn := framed(written(inline("torn", []byte("torn"))))
	wrong := []byte{0, 1, 2, 3}
	for k, s := range all {
		b, bad := first(7), 0
		var want []api.Found
		for i, letter := range s {
			r, p := part(letter, i+k)
			if letter == 'r' {
				want = append(want, api.Found{At: len(b), Size: len(p), R: r})
			} else {
				bad++
			}
			b = slices.Concat(b, p)
		}
		for _, end := range [][]byte{nil, torn[:1+k%17], wrong, slices.Concat(wrong, torn)} {
			laid(t, b, end).all(s, want, bad)
		}
	}
}

// P9.3: a segment to which things are added, and which is synced at times, and then power fails: what is there again are the first ones, those that were synced at least, and no other one.
func TestTorn(t *testing.T) {
	l := few()
	for kept := range len(l) + 1 {
		h := hold(t, 1000, l[:kept]...)
		h.d.Sync(seven)
		h.d.SyncDir()
		sure := h.end
		for _, r := range l[kept:] {
			h.add(r)
		}
		for more := -1; more <= h.end-sure+1; more++ {
			h := hold(t, 1000, l[:kept]...)
			h.d.Sync(seven)
			h.d.SyncDir()
			for _, r := range l[kept:] {
				h.add(r)
			}
			h.d.Boot(0, []int{more})
			h.tornAt(min(sure+max(more, 0), h.end))
		}
	}
}

// tornAt expects what was added ahead of a place to be there, and nothing else.
func (h *held) tornAt(n int) {
	h.t.Helper()
	if got := seg.Size(h.d, 7); got != n {
		h.t.Errorf("torn at %d: size %d", n, got)
	}
	if n < 13 {
		noneOf(h.t, "torn", h.d, 7, api.ErrCorrupt)
		return
	}
	whole := 0
	for _, f := range h.want {
		switch {
		case f.At+f.Size <= n:
			whole++
			h.got("torn", f)
		case f.At+4 <= n:
			h.refused("torn", 7, f.At, api.ErrShort)
		default:
			h.refused("torn", 7, f.At, api.ErrArg)
		}
	}
	h.all("torn", h.want[:whole], 0)
}

// P9.3: of one that was never synced, each beginning may be there: without its first frame it is none.
func TestTornThatWasNotSynced(t *testing.T) {
	for n := range 13 + 60 {
		h := hold(t, 1000, few()...)
		h.d.Boot(1, []int{n})
		h.tornAt(n)
	}
}

// P9.3: one whose name was not kept is not there; its bytes may be synced or not.
func TestNameThatWasNotKept(t *testing.T) {
	for _, syncs := range []bool{false, true} {
		h := hold(t, 1000, few()...)
		if syncs {
			h.d.Sync(seven)
		}
		h.d.Boot(0, []int{999})
		noneOf(t, "no name", h.d, 7, api.ErrNone)
		if seg.Size(h.d, 7) != 0 {
			t.Error(seg.Size(h.d, 7))
		}
		if e := seg.Make(h.d, 7); e != api.OK {
			t.Error(e)
		}
	}
}

// P9.3: power that fails at any thing, or one that goes wrong, while records are added and synced, and any beginning of what was not kept.
func TestTornAnywhere(t *testing.T) {
	c := chance(12)
	l := append(few(), rights()[:12]...)
	for round := range 4000 {
		h := hold(t, 100000)
		h.d.Sync(seven)
		h.d.SyncDir()
		h.d.Cut(c.below(25))
		if c.below(2) == 0 {
			h.d.Fail(c.below(25))
		}
		sure := 0
		for range 15 {
			r := l[c.below(len(l))]
			if at, n, e := seg.Add(h.d, 7, r); e == api.OK {
				h.want = append(h.want, api.Found{At: at, Size: n, R: r})
				h.end = at + n
			}
			if c.below(3) == 0 && h.d.Sync(seven) == api.OK {
				sure = len(h.want)
			}
		}
		h.d.Boot(c.below(3), []int{c.below(200)})
		got, bad, e := seg.All(h.d, 7)
		if e != api.OK || bad != 0 || len(got) < sure || len(got) > len(h.want) || !slices.EqualFunc(got, h.want[:len(got)], sameFound) {
			t.Fatalf("round %d: %s, %d, error %d; want %d at least, of %s", round, brief(got), bad, e, sure, brief(h.want))
		}
		h.tornAt(seg.Size(h.d, 7))
	}
}

// masks are turns within 32 bits, at their beginning, at their end, and at both.
func masks() []uint32 {
	return []uint32{1, 1 << 31, 1<<31 + 1, 3, 0xffffffff, 0x82f63b79, 0x10000, 0x01010101}
}

// within is the part of a mask, turned from a bit on, that is ahead of another bit.
func within(mask uint32, at, end int) uint32 {
	if end-at < 32 {
		mask &= 1<<(end-at) - 1
	}
	return mask
}

// P9.4: whatever has turned behind a frame's length, at each bit of it, is corrupt at its place, and is told as one that isn't there; all others are as they were.
func TestSpoilt(t *testing.T) {
	h := hold(t, 1000, few()...)
	for i, f := range h.want {
		others := slices.Concat(h.want[:i], h.want[i+1:])
		end := 8 * (f.At + f.Size)
		for bit := 8 * (f.At + 4); bit < end; bit++ {
			for _, mask := range masks() {
				mask = within(mask, bit, end)
				if mask == 0 {
					continue
				}
				h.d.Flip(seven, bit, mask)
				h.refused("spoilt", 7, f.At, api.ErrCorrupt)
				h.all("spoilt", others, 1)
				for _, other := range others {
					h.got("beside a spoilt one", other)
				}
				h.d.Flip(seven, bit, mask)
			}
		}
	}
	h.right("turned back")
}

// P9.4: the same of long records, at the ends of their frames and in their middle.
func TestLongSpoilt(t *testing.T) {
	h := hold(t, 100000, rights()...)
	for i, f := range h.want {
		others := slices.Concat(h.want[:i], h.want[i+1:])
		for _, n := range []int{32, 33, 32 + 4*(f.Size-4), 8*f.Size - 65, 8*f.Size - 33, 8*f.Size - 32, 8*f.Size - 1} {
			n = max(n, 32)
			for _, mask := range masks() {
				mask = within(mask, n, 8*f.Size)
				if mask == 0 {
					continue
				}
				h.d.Flip(seven, 8*f.At+n, mask)
				h.refused("spoilt", 7, f.At, api.ErrCorrupt)
				h.all("spoilt", others, 1)
				h.d.Flip(seven, 8*f.At+n, mask)
			}
		}
	}
	h.right("turned back")
}

// P9.4: several that are spoilt are all told, and counted.
func TestManySpoilt(t *testing.T) {
	for which := range 1 << len(few()) {
		h := hold(t, 1000, few()...)
		var others []api.Found
		bad := 0
		for i, f := range h.want {
			if which>>i&1 == 0 {
				others = append(others, f)
				continue
			}
			bad++
			h.d.Flip(seven, 8*f.At+32+which%25, 1<<31+1<<3)
			h.refused("spoilt", 7, f.At, api.ErrCorrupt)
		}
		if bad == 0 {
			h.right("none is spoilt")
			continue
		}
		for _, f := range others {
			h.got("beside spoilt ones", f)
		}
		h.all("spoilt", others, bad)
	}
}

// P9.4: one whose first frame has turned is no segment; what stands in it is got, all the same.
func TestSpoiltFirstFrame(t *testing.T) {
	h := hold(t, 1000, few()...)
	for bit := range 8 * 13 {
		h.d.Flip(seven, bit, within(1<<31+1, bit, 8*13))
		noneOf(t, "spoilt", h.d, 7, api.ErrCorrupt)
		h.refused("spoilt", 7, 0, api.ErrCorrupt)
		for _, f := range h.want {
			h.got("behind a spoilt first frame", f)
		}
		h.d.Flip(seven, bit, within(1<<31+1, bit, 8*13))
	}
	h.right("turned back")
}

// P9.4 asks for a length that is right: with one that isn't all ahead of it are found, and none behind it; each is got at its place, all the same.
func TestSpoiltLength(t *testing.T) {
	h := hold(t, 1000, few()...)
	for i, f := range h.want {
		for bit := 8 * f.At; bit < 8*(f.At+4); bit++ {
			h.d.Flip(seven, bit, 1)
			h.refused("a spoilt length", 7, f.At, api.ErrCorrupt)
			h.all("a spoilt length", h.want[:i], 0)
			for j, other := range h.want {
				if j != i {
					h.got("beside a spoilt length", other)
				}
			}
			h.d.Flip(seven, bit, 1)
		}
	}
}

// P2: asking changes nothing, and is no thing: nothing goes wrong with it, nor sooner.
func TestAskingChangesNothing(t *testing.T) {
	h := hold(t, 100000, rights()...)
	b, done := h.bytes(), h.d.Done()
	h.d.Fail(1)
	h.d.Cut(2)
	for range 3 {
		h.right("asked")
		h.refused("asked", 7, 0, api.ErrCorrupt)
		h.refused("asked", 8, 0, api.ErrNone)
		noneOf(t, "asked", h.d, 8, api.ErrNone)
	}
	if !bytes.Equal(h.bytes(), b) || h.d.Done() != done || len(h.d.List()) != 1 {
		t.Error("something has changed")
	}
	for i, want := range []api.Errno{api.OK, api.ErrIO, api.ErrDown} {
		if e := h.d.Sync(seven); e != want {
			t.Error(i, e)
		}
	}
}

// P9.1: one added is one thing, one made two.
func TestThings(t *testing.T) {
	h := hold(t, 100000)
	if h.d.Done() != 2 {
		t.Error(h.d.Done())
	}
	for i, r := range rights() {
		h.add(r)
		if h.d.Done() != 3+i {
			t.Error(i, h.d.Done())
		}
	}
}

// P3: what is handed in is as it was, its spare room too, and is not kept.
func TestArgumentsStay(t *testing.T) {
	for _, r := range rights() {
		room, places := append(bytes.Clone(r.B), body(40, 7)...), append(slices.Clone(r.Locs), api.Loc{Seg: 1}, api.Loc{At: 2})
		b, l := bytes.Clone(room), slices.Clone(places)
		in := r
		in.B, in.Locs = room[:len(r.B)], places[:len(r.Locs)]
		h := hold(t, 100000)
		if _, _, e := seg.Add(h.d, 7, in); e != api.OK {
			t.Fatal(e)
		}
		if !bytes.Equal(room, b) || !slices.Equal(places, l) {
			t.Errorf("%s has changed", brief(r))
		}
		clear(room)
		clear(places)
		h.got("written over", api.Found{At: 13, R: r})
	}
}

// P3: what comes out is new memory, its spare room too, and no two records share any.
func TestAnswersAreNew(t *testing.T) {
	h := hold(t, 100000, append(rights(), few()...)...)
	over := func(r api.Rec) {
		b, l := r.B[:cap(r.B)], r.Locs[:cap(r.Locs)]
		for i := range b {
			b[i] ^= 255
		}
		clear(l)
	}
	other, _, _ := seg.All(h.d, 7)
	one, _, _ := seg.All(h.d, 7)
	for i, f := range one {
		r, _ := seg.Get(h.d, 7, f.At)
		over(r)
		over(f.R)
		if !slices.EqualFunc(one[i+1:], h.want[i+1:], sameFound) {
			t.Fatal("records share memory")
		}
	}
	clear(one[:cap(one)])
	if !slices.EqualFunc(other, h.want, sameFound) {
		t.Error("two answers share memory")
	}
	h.right("written over")
}

// P3: no answer hangs on another disk, nor on what is done to another segment.
func TestDisksAreTheirOwn(t *testing.T) {
	h, other := hold(t, 10000, few()...), hold(t, 10000, tomb("z"))
	for _, n := range []int{6, 8} {
		seg.Make(h.d, n)
		seg.Add(h.d, n, tomb("n"))
		seg.Add(other.d, n, tomb("n"))
	}
	h.right("beside others")
	other.right("beside others")
	h.add(tomb("more"))
	other.add(inline("less", nil))
	h.right("added")
	other.right("added")
}

// P1: each call ends, whatever it is given.
func TestAllArguments(t *testing.T) {
	numbers := append(noNumbers(), 0, 1, 7, 13, 1<<30, 99999999)
	d := disk.New(1 << 20)
	for range 2 {
		for _, n := range numbers {
			seg.Make(d, n)
			for _, r := range slices.Concat(rights(), wrongs()) {
				seg.Add(d, n, r)
			}
			for _, from := range append(numbers, seg.Size(d, n), seg.Size(d, n)-1, seg.Size(d, n)-4) {
				if r, e := seg.Get(d, n, from); e != api.OK && !same(r, api.Rec{}) {
					t.Error(n, from, e, brief(r))
				}
			}
			if l, bad, e := seg.All(d, n); e != api.OK && (len(l) != 0 || bad != 0) {
				t.Error(n, e, brief(l), bad)
			}
		}
		d.Cut(40)
	}
}

// P1: of any bytes each call ends.
func TestAnyBytes(t *testing.T) {
	c := chance(6)
	for seed := range uint64(3000) {
		b := body(c.below(60), seed)
		if len(b) > 4 && seed%3 == 0 {
			n := byte(c.below(50))
			b[0], b[1], b[2], b[3] = 0, n, 255, ^n
		}
		h := laid(t, first(7), b)
		l, bad, e := seg.All(h.d, 7)
		if e != api.OK || len(l)+bad > len(b)/9 {
			t.Fatal(brief(l), bad, e)
		}
		for from := range 13 + len(b) {
			seg.Get(h.d, 7, from)
		}
	}
}
