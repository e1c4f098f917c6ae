package replay_test

import (
	"fmt"
	"slices"
	"strconv"
	"strings"
	"testing"

	"souterrain/api"
	"souterrain/disk"
	"souterrain/frame"
	"souterrain/hint"
	"souterrain/log"
	"souterrain/man"
	"souterrain/replay"
	"souterrain/seg"
)

// played adds what stands in a text to a log, by these words, and is where each record stands, in order:
//
//	a an inline   -a a tomb   . a piece   *a a root of all pieces since the last one   / a roll
func played(t *testing.T, l *log.Log, todo string) []api.Place {
	t.Helper()
	var all []api.Place
	var parts []api.Loc
	for i, s := range strings.Fields(todo) {
		var p api.Place
		switch {
		case s == "/":
			does(t, "roll", l.Roll())
			continue
		case s == ".":
			p = add(t, l, piece(5, len(parts), 1+i))
			parts = append(parts, api.Loc{Seg: p.Seg, At: p.Hint.At, N: 1 + i})
		case s[0] == '-':
			p = add(t, l, tomb(s[1:]))
		case s[0] == '*':
			p = add(t, l, root(s[1:], parts...))
			parts = nil
		default:
			p = add(t, l, inline(s, strings.Repeat("v", i)))
		}
		all = append(all, p)
	}
	return all
}

// numbers are those that stand in a text.
func numbers(t *testing.T, s string) []int {
	t.Helper()
	var l []int
	for _, x := range strings.Fields(s) {
		n, err := strconv.Atoi(x)
		if err != nil {
			t.Fatal(s, err)
		}
		l = append(l, n)
	}
	return l
}

// are expects just these of places to be where keys stand, and these to be alive, of all that segments have.
func are(t *testing.T, what string, d *disk.Disk, l *log.Log, at []api.Place, stand string, alive string) {
	t.Helper()
	places, live := map[string]api.Place{}, map[int]int{}
	for _, i := range numbers(t, stand) {
		places[at[i].Hint.Key] = at[i]
	}
	for _, i := range numbers(t, alive) {
		live[at[i].Seg] += at[i].Hint.Size
	}
	var uses []api.Use
	for _, n := range l.Segs() {
		uses = append(uses, api.Use{Seg: n, All: int64(seg.Size(d, n)), Live: int64(live[n])})
	}
	dir, got := replay.All(d, l)
	expect(t, what, dir, got, places, uses)
	replayed(t, what, d, l)
}

// everywhere expects the same of a log as it is, and opened anew, with its hints' files, without some, and without all of them; and behind a boot.
func everywhere(t *testing.T, todo string, stand string, alive string) {
	t.Helper()
	for _, limit := range []int{1 << 20, 64} {
		for choice := range 5 {
			d := disk.New(100000)
			l := open(t, d, limit)
			at := played(t, l, todo)
			are(t, todo, d, l, at, stand, alive)
			for i, n := range l.Segs() {
				switch i * choice % 5 {
				case 1:
					d.Remove(hintFile(n))
				case 2, 3:
					d.Flip(hintFile(n), 8*(1+i), 1)
				case 4:
					d.Append(hintFile(n), []byte("h"))
				}
			}
			are(t, todo+": spoilt hints", d, l, at, stand, alive)
			are(t, todo+": opened", d, open(t, d, 64), at, stand, alive)
			does(t, "sync", l.Sync())
			d.Boot(choice, []int{choice, 99})
			are(t, todo+": booted", d, open(t, d, 64), at, stand, alive)
		}
	}
}

// P16.1, Q3, and P16.2: what was written out by hand, the document's example ahead of all: which records keys stand at, counted from 0 on, and which are alive.
func TestAllExamples(t *testing.T) {
	for _, x := range []struct{ todo, stand, alive string }{
		{"a b -a", "1", "1"},
		{"", "", ""},
		{"/", "", ""},
		{"/ / /", "", ""},
		{"a", "0", "0"},
		{"a /", "0", "0"},
		{"/ a", "0", "0"},
		{"/ / a / /", "0", "0"},
		{"-a", "", ""},
		{".", "", ""},
		{". .  / .", "", ""},
		{"a a", "1", "1"},
		{"a a a", "2", "2"},
		{"a / a", "1", "1"},
		{"a a / a a / a a", "5", "5"},
		{"a -a", "", ""},
		{"a / -a", "", ""},
		{"-a / a", "1", "1"},
		{"-a a", "1", "1"},
		{"a -a a", "2", "2"},
		{"a / -a / a", "2", "2"},
		{"a / -a -a /", "", ""},
		{"a / a / -a", "", ""},
		{"a / / / -a", "", ""},
		{"a / -b / b", "0 2", "0 2"},
		{"a b / b c / c a", "2 4 5", "2 4 5"},
		{"c b a / b", "0 2 3", "0 2 3"},
		{"b / a", "0 1", "0 1"},
		{"a b c d / -a -c / c / -d -b", "6", "6"},
		{"a ab abc / -ab", "0 2", "0 2"},
		{". *a", "1", "0 1"},
		{". . . *a", "3", "0 1 2 3"},
		{". / . / . / *a", "3", "0 1 2 3"},
		{". *a / . *a", "3", "2 3"},
		{". *a -a", "", ""},
		{". *a / -a", "", ""},
		{". *a . *b", "1 3", "0 1 2 3"},
		{". *a . *b / -a", "3", "2 3"},
		{". *a / a", "2", "2"},
		{"a / . *a", "2", "1 2"},
		{"a . *a", "2", "1 2"},
		{". *a .", "1", "0 1"},
		{". *a a -a . / . *a", "6", "4 5 6"},
		{". . *a . *b / b -a / . . . *a c -c", "5 10", "5 7 8 9 10"},
	} {
		everywhere(t, x.todo, x.stand, x.alive)
	}
}

// P16.1, Q3: a log of no Segs has no keys, and a book of none, whatever files there are.
func TestAllOfNothing(t *testing.T) {
	d := disk.New(10000)
	l := open(t, d, 64)
	nothing := func(what string) {
		t.Helper()
		dir, uses := replayed(t, what, d, l)
		if dir.Many() != 0 || len(uses.All()) != 0 {
			t.Error(what, dir.List(), uses.All())
		}
	}
	nothing("new")
	does(t, "make", seg.Make(d, 1))
	if _, _, e := seg.Add(d, 1, inline("a", "1")); e != api.OK {
		t.Fatal(e)
	}
	nothing("nobody's file")
	down(d)
	nothing("down")
}

// P16.1, Q3: only Segs count, not files of others: not those that were dropped, nor such as are nobody's.
func TestAllOfSegsAlone(t *testing.T) {
	d := disk.New(10000)
	l := open(t, d, 1<<20)
	at := played(t, l, "/ a b / b / -a c")
	does(t, "make", seg.Make(d, 9))
	seg.Add(d, 9, inline("z", "1"))
	seg.Add(d, 9, tomb("c"))
	are(t, "nobody's", d, l, at, "2 4", "2 4")
	d.Cut(5)
	does(t, "drop", l.Drop([]int{2}))
	d.Boot(99, []int{999})
	if !slices.Contains(d.List(), segFile(2)) {
		t.Fatal("the file is gone")
	}
	l = open(t, d, 64)
	are(t, "dropped", d, l, at, "1 4", "1 4")
	does(t, "drop", l.Drop([]int{3}))
	are(t, "the tomb is dropped", d, l, at, "0 1", "0 1")
	does(t, "drop", l.Drop([]int{1}))
	are(t, "all are dropped", d, l, at, "", "")
}

// P16.1, Q3: the lists' order is that of Segs, which is that of numbers, however many digits they have, and whatever the order in which their files were made.
func TestAllInOrderOfSegs(t *testing.T) {
	d := disk.New(100000)
	segs := []int{0, 9, 10, 99, 100, 99999997, 99999998}
	var at []api.Place
	for _, n := range []int{100, 9, 99999998, 0, 99, 99999997, 10} {
		does(t, "make", seg.Make(d, n))
		for _, r := range []api.Rec{inline("a", segFile(n)), inline(segFile(n), "1")} {
			from, size, e := seg.Add(d, n, r)
			does(t, "add", e)
			at = append(at, api.Place{Seg: n, Hint: api.Hint{Kind: r.Kind, Key: r.Key, At: from, Size: size}})
		}
	}
	does(t, "save", man.Save(d, api.Man{Segs: segs, Next: 99999999}))
	l := open(t, d, 64)
	are(t, "all", d, l, at, "4 1 3 5 7 9 11 13", "4 1 3 5 7 9 11 13")
	does(t, "drop", l.Drop([]int{99999998, 99999997}))
	are(t, "less", d, l, at, "0 1 3 7 9 13", "0 1 3 7 9 13")
}

// P16.1, Q3: a segment of which seg.All has an error has none, unless there are hints of it; all the same its bytes are there, not alive.
func TestAllOfSpoiltSegments(t *testing.T) {
	d := disk.New(10000)
	l := open(t, d, 1<<20)
	at := played(t, l, "/ a b / b -c / c")
	flip(t, d, segFile(2), 40)
	are(t, "with hints", d, l, at, "0 2 4", "0 2 4")
	does(t, "remove", d.Remove(hintFile(2)))
	are(t, "without", d, l, at, "0 1 4", "0 1 4")
	flip(t, d, segFile(3), 70)
	are(t, "the last one", d, l, at, "0 1", "0 1")
	flip(t, d, segFile(1), 71)
	are(t, "all", d, l, at, "0 1", "0 1")
	does(t, "remove", d.Remove(hintFile(1)))
	are(t, "all, without", d, l, at, "", "")
	for n := 1; n <= 3; n++ {
		flip(t, d, segFile(n), []int{71, 40, 70}[n-1])
	}
	are(t, "turned back", d, l, at, "0 2 4", "0 2 4")
	down(d)
	are(t, "down", d, l, at, "", "")
}

// P16.1, Q3: each of Segs is in the book, one without a file, or of an empty one, with nothing.
func TestAllOfEmptyFiles(t *testing.T) {
	d := disk.New(10000)
	l := open(t, d, 1<<20)
	played(t, l, "/ a / b / c / /")
	lay(t, d, segFile(1), nil)
	does(t, "remove", d.Remove(segFile(2)))
	does(t, "remove", d.Remove(hintFile(3)))
	lay(t, d, segFile(3), []byte("123"))
	dir, uses := replayed(t, "empty", d, l)
	if want := []api.Use{{Seg: 1}, {Seg: 2}, {Seg: 3, All: 3}, {Seg: 4, All: 13}, {Seg: 5, All: 13}}; dir.Many() != 0 || !slices.Equal(uses.All(), want) {
		t.Error(dir.List(), uses.All())
	}
	d = disk.New(10000)
	l = open(t, d, 64)
	does(t, "roll", l.Roll())
	d.Boot(0, nil)
	dir, uses = replayed(t, "booted", d, open(t, d, 64))
	if want := []api.Use{{Seg: 1}}; dir.Many() != 0 || !slices.Equal(uses.All(), want) {
		t.Error(dir.List(), uses.All())
	}
}

// P16.1, Q3: what a root's pieces are said to have counts in Segs alone, also where none stands.
func TestAllOfPiecesElsewhere(t *testing.T) {
	d := disk.New(10000)
	l := open(t, d, 1<<20)
	rolls(t, l, []api.Rec{inline("a", "1")}, []api.Rec{piece(1, 0, 30)}, []api.Rec{tomb("x")})
	does(t, "drop", l.Drop([]int{2}))
	p := add(t, l, root("r", api.Loc{Seg: 2, At: 13, N: 30}, api.Loc{Seg: 99999999, At: 13, N: 1}, api.Loc{Seg: 0, At: 1, N: 2}, api.Loc{Seg: 4, At: 13, N: 3}, api.Loc{Seg: 1, At: 1 << 30, N: 5}))
	_, uses := replayed(t, "elsewhere", d, l)
	size := int64(p.Hint.Size)
	if want := []api.Use{{Seg: 1, All: 34, Live: 34}, {Seg: 3, All: 23 + size, Live: size}}; !slices.Equal(uses.All(), want) {
		t.Error(uses.All(), want)
	}
	q := add(t, l, root("q", api.Loc{Seg: 9, At: 13, N: 30}))
	_, uses = replayed(t, "nowhere", d, l)
	size += int64(q.Hint.Size)
	if want := []api.Use{{Seg: 1, All: 34, Live: 34}, {Seg: 3, All: 23 + size, Live: size}}; !slices.Equal(uses.All(), want) {
		t.Error(uses.All(), want)
	}
}

// P16.1, Q3: where more is alive than seg.Size is, that is all, and nothing is dead; from one byte less on, one is dead.
func TestAllOfMoreThanThereIs(t *testing.T) {
	for _, x := range []struct {
		pieces         int
		n              int
		all, live, own int64
	}{{1, 1, 112, 18, 0}, {2, 38, 112, 110, 0}, {2, 39, 112, 112, 0}, {1, 94, 112, 111, 0}, {1, 95, 112, 112, 0}, {1, 96, 113, 113, 0}, {2, 40, 114, 114, 0}, {512, 128, 74240, 74240, 0}, {512, 1, 9216, 9216, 0}, {16, 4096, 65808, 65808, 0}} {
		d := disk.New(100000)
		l := open(t, d, 1<<20)
		at := rolls(t, l, []api.Rec{piece(5, 0, 82)}, []api.Rec{root("r", slices.Repeat([]api.Loc{{Seg: 1, At: 13, N: x.n}}, x.pieces)...)})
		own := int64(at[1][0].Hint.Size)
		for range 2 {
			_, uses := replayed(t, "more", d, l)
			if want := []api.Use{{Seg: 1, All: x.all, Live: x.live}, {Seg: 2, All: 13 + own, Live: own}}; !slices.Equal(uses.All(), want) {
				t.Errorf("%d times %d: %v; want %v", x.pieces, x.n, uses.All(), want)
			}
			d.Remove(hintFile(1))
		}
	}
}

// P16.1, Q3: pieces of two keys count twice; a root's own segment may have some, too.
func TestAllOfSharedPieces(t *testing.T) {
	d := disk.New(10000)
	l := open(t, d, 1<<20)
	does(t, "roll", l.Roll())
	part := api.Loc{Seg: 1, At: 13, N: 50}
	add(t, l, piece(5, 0, 50))
	a := add(t, l, root("a", part))
	size := int64(a.Hint.Size)
	for i, key := range []string{"b", "c"} {
		add(t, l, root(key, part))
		_, uses := replayed(t, "shared", d, l)
		live := int64(2+i) * (67 + size)
		if want := []api.Use{{Seg: 1, All: max(live, 80+int64(2+i)*size), Live: live}}; !slices.Equal(uses.All(), want) {
			t.Error(uses.All(), want)
		}
	}
}

// P16.1, Q3: of a root of which Locs has an error its own frame alone is alive, as long as the hint says; its key stands there.
func TestAllOfSpoiltRoots(t *testing.T) {
	d := disk.New(10000)
	l := open(t, d, 1<<20)
	at := played(t, l, "/ a . *r b / c")
	are(t, "right", d, l, at, "0 2 3 4", "0 1 2 3 4")
	r := at[2].Hint
	for bit := 8 * r.At; bit < 8*(r.At+r.Size); bit++ {
		flip(t, d, segFile(1), bit)
		are(t, fmt.Sprint("bit ", bit), d, l, at, "0 2 3 4", "0 2 3 4")
		flip(t, d, segFile(1), bit)
	}
	flip(t, d, segFile(1), 8*(r.At+4))
	does(t, "remove", d.Remove(hintFile(1)))
	are(t, "without hints", d, l, at, "0 3 4", "0 3 4")
	flip(t, d, segFile(1), 8*(r.At+4))
	are(t, "turned back", d, l, at, "0 2 3 4", "0 1 2 3 4")
	flip(t, d, segFile(1), 8*(at[1].Hint.At+14))
	are(t, "a spoilt piece", d, l, at, "0 2 3 4", "0 1 2 3 4")
}

// P16.1, Q3: a right file of hints counts, whatever the segment has: where it says that keys stand they do, with as much as it says.
func TestAllGoesByTheFile(t *testing.T) {
	d := disk.New(10000)
	l := open(t, d, 1<<20)
	at := played(t, l, "/ a . *r b / c")
	said := []api.Hint{{Kind: api.Tomb, Key: "a", At: 13, Size: 9}, {Kind: api.Root, Key: "b", At: at[3].Hint.At, Size: 20}, {Kind: api.Inline, Key: "r", At: 5, Size: 30}, {Kind: api.Root, Key: "z", At: 1 << 30, Size: 8200}}
	lay(t, d, hintFile(1), hint.Put(said, seg.Size(d, 1)))
	dir, uses := replayed(t, "said", d, l)
	c := int64(at[4].Hint.Size)
	if want := []api.Use{{Seg: 1, All: 8250, Live: 8250}, {Seg: 2, All: 13 + c, Live: c}}; !slices.Equal(dir.List(), []string{"b", "c", "r", "z"}) || !slices.Equal(uses.All(), want) {
		t.Error(dir.List(), uses.All(), want)
	}
	if p, is := dir.Get("z"); !is || p != (api.Place{Seg: 1, Hint: said[3]}) {
		t.Error(p, is)
	}
	does(t, "remove", d.Remove(hintFile(1)))
	are(t, "removed", d, l, at, "0 2 3 4", "0 1 2 3 4")
}

// P16.1, Q3: bytes that are no records count as dead: such as are torn, or passed by.
func TestAllOfTornEnds(t *testing.T) {
	d := disk.New(10000)
	l := open(t, d, 1<<20)
	at := played(t, l, "/ a . b")
	whole := content(t, d, segFile(1))
	for n := range len(whole) + 1 {
		lay(t, d, segFile(1), whole[:n])
		switch {
		case n == len(whole):
			are(t, fmt.Sprint("cut at ", n), d, l, at, "0 2", "0 2")
		case n >= 13+at[0].Hint.Size:
			are(t, fmt.Sprint("cut at ", n), d, l, at, "0", "0")
		default:
			are(t, fmt.Sprint("cut at ", n), d, l, at, "", "")
		}
	}
	behind(t, d, segFile(1), frame.Put([]byte("\x09no record")))
	behind(t, d, segFile(1), framed(tomb("a"))[:9])
	are(t, "more bytes", d, l, at, "0 2", "0 2")
}

// P16.1, Q2 and Q3: a root of as many pieces as may be, and of such in many segments.
func TestAllOfManyPieces(t *testing.T) {
	d := disk.New(1 << 20)
	l := open(t, d, 200)
	var parts []api.Loc
	live := map[int]int64{}
	for i := range 512 {
		p := add(t, l, piece(7, i, 1+i%50))
		parts = append(parts, api.Loc{Seg: p.Seg, At: p.Hint.At, N: 1 + i%50})
		live[p.Seg] += int64(p.Hint.Size)
	}
	p := add(t, l, root("r", parts...))
	live[p.Seg] += int64(p.Hint.Size)
	_, uses := replayed(t, "many pieces", d, l)
	for _, n := range l.Segs() {
		u, _ := uses.Of(n)
		dead := int64(13)
		if u.Live != live[n] || u.All != live[n]+dead {
			t.Errorf("%v; want %d alive", u, live[n])
		}
	}
	if len(live) < 50 {
		t.Error(len(live), "segments")
	}
}

// P16.1, Q3, and P16.2: as many segments as there may be, with hints and without, and thousands of keys.
func TestAllOfManySegments(t *testing.T) {
	d := disk.New(1 << 24)
	l := open(t, d, 1<<20)
	want := map[string]api.Place{}
	c := chance(1)
	for i := range 1000 {
		does(t, "roll", l.Roll())
		for range 5 {
			key := strconv.Itoa(c.below(3000))
			p := add(t, l, inline(key, segFile(i)))
			if want[key] = p; c.below(4) == 0 {
				add(t, l, tomb(key))
				delete(want, key)
			}
		}
	}
	for range 2 {
		dir, uses := replay.All(d, l)
		if dir.Many() != len(want) || len(uses.All()) != 1000 {
			t.Fatal(dir.Many(), len(want), len(uses.All()))
		}
		live := int64(0)
		for key, p := range want {
			if got, is := dir.Get(key); !is || got != p {
				t.Errorf("%s: %v, %t; want %v", key, got, is, p)
			}
			live += int64(p.Hint.Size)
		}
		if _, got := uses.Sum(); got != live {
			t.Error(got, live)
		}
		for n := 1; n <= 1000; n += 2 {
			d.Flip(hintFile(n), 33, 7)
		}
		does(t, "sync", l.Sync())
		d.Boot(0, nil)
		l = open(t, d, 64)
	}
}

// P3: what was handed out is the caller's own: whatever happens to it, or to the log then, changes nothing of the other one. Two logs on two disks change nothing of one another.
func TestAllIsTheCallersOwn(t *testing.T) {
	d, other := disk.New(10000), disk.New(10000)
	l, no := open(t, d, 64), open(t, other, 1<<20)
	at := played(t, l, "a . *r b -b c")
	there := played(t, no, "x . a / . *y -a")
	d.Fail(0)
	ahead := state(d)
	dir, uses := replay.All(d, l)
	again, usesAgain := replay.All(d, l)
	for _, key := range dir.List() {
		dir.Del(key)
	}
	dir.Put(api.Place{Hint: api.Hint{Key: "z"}})
	for _, u := range uses.All() {
		uses.Drop(u.Seg)
	}
	uses.Put(77, 5, true)
	if again.Many() != 3 || len(usesAgain.All()) != len(l.Segs()) {
		t.Error(again.List(), usesAgain.All())
	}
	are(t, "changed", d, l, at, "0 2 5", "0 1 2 5")
	are(t, "the other log", other, no, there, "0 4", "0 1 3 4")
	if state(d) != ahead || d.SyncDir() != api.ErrIO {
		t.Error("a thing was done")
	}
	more := add(t, l, inline("a", "new"))
	at = append(at, more)
	if p, _ := again.Get("a"); p != at[0] {
		t.Error(p)
	}
	are(t, "more", d, l, at, "2 5 6", "1 2 5 6")
	are(t, "the other log", other, no, there, "0 4", "0 1 3 4")
	other.Boot(99, []int{99})
	are(t, "the other disk is booted", d, l, at, "2 5 6", "1 2 5 6")
}

// P16.2: power fails at each thing of a run, with each part of names there again, and some of the bytes: keys stand where their last records of what is there do.
func TestBootAtEachThing(t *testing.T) {
	for at := 0; ; at++ {
		for dirs := range 8 {
			d := disk.New(10000)
			l := open(t, d, 64)
			d.Cut(at)
			for i := range 12 {
				l.Add([]api.Rec{inline("a", "1"), piece(1, 0, 9), root("b", api.Loc{Seg: 1, At: 13, N: 9}), tomb("a")}[i%4])
			}
			if !d.Down() {
				if at < 40 {
					t.Error(at, "things were done")
				}
				return
			}
			d.Boot(dirs, []int{at, 3 * dirs, 40})
			l = open(t, d, 64)
			dir, uses := replayed(t, "booted", d, l)
			places, want := plainAll(l, d, func(n int) []api.Hint { return plainFound(d, n) })
			expect(t, "booted", dir, uses, places, want)
		}
	}
}
