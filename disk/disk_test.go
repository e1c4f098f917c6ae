package disk_test

import (
	"bytes"
	"fmt"
	"maps"
	"math"
	"slices"
	"strconv"
	"strings"
	"testing"
	"unsafe"

	"souterrain/api"
	"souterrain/disk"
)

// script does what stands in a text, one thing behind the other, and is what came of each, by these words:
//
//	+a create   a=xyz append   !a sync   a>b rename   -a remove   ! syncdir
//	f1 fail     c1 cut         b1,2,9 boot of 1, and of 2 and 9
func script(t *testing.T, d *disk.Disk, todo string) string {
	t.Helper()
	var got []string
	say := func(e api.Errno) { got = append(got, strconv.Itoa(int(e))) }
	number := func(s string) int {
		n, err := strconv.Atoi(s)
		if err != nil {
			t.Fatal(todo, err)
		}
		return n
	}
	for _, s := range strings.Fields(todo) {
		name, b, appends := strings.Cut(s, "=")
		from, to, renames := strings.Cut(s, ">")
		switch {
		case appends:
			say(d.Append(name, []byte(b)))
		case renames:
			say(d.Rename(from, to))
		case s == "!":
			say(d.SyncDir())
		case s[0] == '!':
			say(d.Sync(s[1:]))
		case s[0] == '+':
			say(d.Create(s[1:]))
		case s[0] == '-':
			say(d.Remove(s[1:]))
		case s[0] == 'f':
			d.Fail(number(s[1:]))
		case s[0] == 'c':
			d.Cut(number(s[1:]))
		case s[0] == 'b':
			var all []int
			for _, x := range strings.Split(s[1:], ",") {
				all = append(all, number(x))
			}
			d.Boot(all[0], all[1:])
		default:
			t.Fatal(todo)
		}
	}
	return strings.Join(got, " ")
}

// shown is all files of a disk that isn't down.
func shown(t *testing.T, d *disk.Disk) string {
	t.Helper()
	var all []string
	for _, name := range d.List() {
		n, is := d.Size(name)
		b, e := d.Read(name, 0, n)
		if !is || e != api.OK || len(b) != n {
			t.Fatalf("%q: size %d, %t; read %d bytes, error %d", name, n, is, len(b), e)
		}
		all = append(all, name+"="+string(b))
	}
	return strings.Join(all, " ")
}

// P8.1, H1 to H5: what was written out by hand, the document's example, and its example 6 of the whole, ahead of all.
func TestExamples(t *testing.T) {
	for _, x := range []struct {
		most             int
		todo, came, want string
		used, done       int
	}{
		{9, "+a a=x b0", "0 0", "", 0, 2},
		{9, "+a a=x !a b0,9", "0 0 0", "", 0, 3},
		{9, "+a a=x !a ! b0", "0 0 0 0", "a=x", 1, 4},
		{9, "+a a=x ! b0", "0 0 0", "a=", 0, 3},
		{9, "+a a=xyz ! b0,2", "0 0 0", "a=xy", 2, 3},
		{9, "+a a=xyz b1,2", "0 0", "a=xy", 2, 2},
		{9, "+a ! a=x !a -a +a a=y !a b0", "0 0 0 0 0 0 0 0", "a=x", 1, 8},
		{9, "+a ! a=x !a -a +a a=y !a b1", "0 0 0 0 0 0 0 0", "", 0, 8},
		{9, "+a ! a=x !a -a +a a=y !a b2", "0 0 0 0 0 0 0 0", "a=y", 1, 8},
		{9, "+a a=x !a +b b=y !b ! a>b b0", "0 0 0 0 0 0 0 0", "a=x b=y", 2, 8},
		{9, "+a a=x !a +b b=y !b ! a>b b1", "0 0 0 0 0 0 0 0", "b=x", 1, 8},
		{9, "+a a=x !a +b b=y !b ! a>b -b b1", "0 0 0 0 0 0 0 0 0", "b=x", 1, 9},
		{9, "+a a=x !a +b b=y !b ! a>b -b b2", "0 0 0 0 0 0 0 0 0", "", 0, 9},
		{9, "+a +a +b a>b a>c b>b b>c !b !c -b -c", "0 4 0 0 3 1 0 3 0 3 0", "", 0, 6},
		{3, "+a a=abc a=d a= -a +b b=def", "0 0 5 0 0 0 0", "b=def", 3, 6},
		{3, "+a a=abc +b b=d a>b b=d -b b=d", "0 0 0 5 0 5 0 3", "", 0, 5},
		{3, "+a a=ab +b b=c b>a a=de a=d", "0 0 0 0 0 0 5", "a=cde", 3, 6},
		{3, "+a a=ab a>b b=c b=d", "0 0 0 0 5", "b=abc", 3, 4},
		{0, "+a a= a=x", "0 0 5", "a=", 0, 2},
		{9, "f0 +a +a", "81 0", "a=", 0, 1},
		{9, "f1 +a +b +b", "0 81 0", "a= b=", 0, 2},
		{9, "f2 +a +a -b +b +c", "0 4 3 0 81", "a= b=", 0, 2},
		{9, "f0 f2 f-1 +a +b +c +d", "0 0 81 0", "a= b= d=", 0, 3},
		{9, "+a f0 a=x a=y", "0 81 0", "a=y", 1, 2},
		{9, "+a f0 a>b a>c", "0 81 0", "c=", 0, 2},
		{9, "+a f0 -a a=x", "0 81 0", "a=x", 1, 2},
		{9, "+a f0 ! b0", "0 81", "", 0, 1},
		{9, "+a ! a=x f0 !a b0", "0 0 0 81", "a=", 0, 3},
		{9, "c0 +a +a ! !a a=x a>b -a b9 +a", "82 82 82 82 82 82 82 0", "a=", 0, 1},
		{9, "c1 +a +b b9", "0 82", "a=", 0, 1},
		{9, "c1 f1 +a +b b9 +b", "0 82 0", "a= b=", 0, 2},
		{9, "c1 f0 +a +b b9 +b", "81 82 0", "b=", 0, 1},
		{9, "c5 f5 b0 +a +b +c +d +e +f +g", "0 0 0 0 0 0 0", "a= b= c= d= e= f= g=", 0, 7},
		{9, "c0 c1 c-1 +a +b b9", "0 82", "a=", 0, 1},
	} {
		d := disk.New(x.most)
		if came := script(t, d, x.todo); came != x.came {
			t.Errorf("%s: %s; want %s", x.todo, came, x.came)
			continue
		}
		if got := shown(t, d); got != x.want || d.Used() != x.used || d.Done() != x.done {
			t.Errorf("%s: %s, used %d, done %d; want %s, %d, %d", x.todo, got, d.Used(), d.Done(), x.want, x.used, x.done)
		}
	}
}

// P8.1, H1: a new one has no file, is not down, and nothing was done.
func TestNew(t *testing.T) {
	for _, most := range []int{math.MinInt, -1, 0, 1, 1 << 26, math.MaxInt} {
		d := disk.New(most)
		if len(d.List()) != 0 || d.Used() != 0 || d.Done() != 0 || d.Down() {
			t.Error(most, d.List(), d.Used(), d.Done(), d.Down())
		}
		if n, is := d.Size("a"); n != 0 || is {
			t.Error(most, n, is)
		}
	}
}

// P8.1, H1 and H3: a disk has as many bytes as it was made of, 0 at least, MaxDisk at most.
func TestMost(t *testing.T) {
	for _, x := range []struct{ most, want int }{
		{math.MinInt, 0}, {-1 << 32, 0}, {-1, 0}, {0, 0}, {1, 1}, {2, 2}, {1000, 1000},
		{1<<26 - 1, 1<<26 - 1}, {1 << 26, 1 << 26}, {1<<26 + 1, 1 << 26}, {1 << 32, 1 << 26}, {1<<32 + 5, 1 << 26}, {math.MaxInt, 1 << 26},
	} {
		d := disk.New(x.most)
		if came := script(t, d, "+a +b"); came != "0 0" {
			t.Fatal(came)
		}
		b := make([]byte, x.want+1)
		for i, c := range []struct {
			name      string
			n         int
			want      api.Errno
			used, all int
		}{
			{"a", x.want + 1, api.ErrFull, 0, 2},
			{"a", x.want / 2, api.OK, x.want / 2, 3},
			{"b", x.want - x.want/2 + 1, api.ErrFull, x.want / 2, 3},
			{"b", x.want - x.want/2, api.OK, x.want, 4},
			{"a", 1, api.ErrFull, x.want, 4},
			{"b", 1, api.ErrFull, x.want, 4},
			{"b", 0, api.OK, x.want, 5},
		} {
			if e := d.Append(c.name, b[:c.n]); e != c.want || d.Used() != c.used || d.Done() != c.all {
				t.Errorf("most %d, append %d: %d, used %d, done %d; want %d, %d, %d", x.most, i, e, d.Used(), d.Done(), c.want, c.used, c.all)
			}
		}
	}
}

// P8.1, H3: a name is 1 to 16 bytes, of any kind; of no other text there is a file.
func TestNames(t *testing.T) {
	for n := range 40 {
		for _, c := range []string{"x", "\x00", "\xff", "/", "."} {
			name := strings.Repeat(c, n)
			h := hold(t, 9)
			want := api.OK
			if n < 1 || n > 16 {
				want = api.ErrArg
			}
			if e := h.create(name); e != want {
				t.Errorf("create %q: %d", name, e)
			}
			h.create("old")
			if e := h.rename("old", name); e != want {
				t.Errorf("rename to %q: %d", name, e)
			}
			h.append(name, []byte("x"))
			h.sync(name)
			h.syncDir()
			h.boot(0, nil)
		}
	}
	h := hold(t, 9)
	if e := h.create("äöüäöüäö"); e != api.OK {
		t.Error("sixteen bytes of eight letters:", e)
	}
	if e := h.create("äöüäöüäöä"); e != api.ErrArg {
		t.Error("eighteen bytes of nine letters:", e)
	}
}

// P8.1, H1: names are told by bytes, the least first.
func TestListIsSorted(t *testing.T) {
	h := hold(t, 0)
	for _, name := range []string{"b", "\xff", "a", "ab", "aa", "B", "\x00", "a\x00", "10", "9", "ä", "z", "\x7f", "\x80"} {
		h.create(name)
	}
	want := []string{"\x00", "10", "9", "B", "a", "a\x00", "aa", "ab", "b", "z", "\x7f", "\x80", "ä", "\xff"}
	if got := h.d.List(); !slices.Equal(got, want) {
		t.Errorf("%q; want %q", got, want)
	}
}

// P8.1, H3: there are at most MaxFiles names, whatever was ever made.
func TestTooMany(t *testing.T) {
	d := disk.New(5)
	name := func(i int) string { return fmt.Sprint("n", i) }
	for i := range api.MaxFiles {
		if e := d.Create(name(i)); e != api.OK {
			t.Fatal(i, e)
		}
	}
	full := len(d.List())
	d.Fail(0)
	for i, x := range []struct{ got, want api.Errno }{
		{d.Create("more"), api.ErrTooMany},
		{d.Create(""), api.ErrArg},
		{d.Create(name(7)), api.ErrThere},
		{d.Rename(name(1), "more"), api.ErrIO},
		{d.Rename(name(1), "more"), api.OK},
		{d.Create(name(1)), api.ErrTooMany},
		{d.Rename("more", name(2)), api.OK},
		{d.Create("more"), api.OK},
		{d.Create(name(1)), api.ErrTooMany},
		{d.Remove("more"), api.OK},
		{d.Create(name(1)), api.OK},
		{d.Create("more"), api.ErrTooMany},
	} {
		if x.got != x.want {
			t.Errorf("call %d: %d; want %d", i, x.got, x.want)
		}
	}
	if full != 4096 || len(d.List()) != 4096 || d.Done() != 4101 {
		t.Error(full, len(d.List()), d.Done())
	}
	d.Boot(4090, nil)
	if len(d.List()) != 4090 {
		t.Error(len(d.List()))
	}
	for i := range 6 {
		if e := d.Create(fmt.Sprint("new", i)); e != api.OK {
			t.Error(e)
		}
	}
	if e := d.Create("more"); e != api.ErrTooMany {
		t.Error(e)
	}
}

// P8.1, H2 and H3, and P2: where several errors apply, the first one that the document names is the answer.
func TestFirstErrors(t *testing.T) {
	d := disk.New(3)
	script(t, d, "+a a=abc +b f0")
	read := func(name string, at, n int) api.Errno {
		b, e := d.Read(name, at, n)
		if e != api.OK && len(b) != 0 {
			t.Errorf("%d bytes with the error %d", len(b), e)
		}
		return e
	}
	long := strings.Repeat("x", 17)
	big := make([]byte, 10)
	for i, x := range []struct{ got, want api.Errno }{
		{read("x", -1, -1), api.ErrNone},
		{read("", 0, 0), api.ErrNone},
		{read(long, 9, 9), api.ErrNone},
		{d.Append("x", big), api.ErrNone},
		{d.Append("", nil), api.ErrNone},
		{d.Rename("x", "x"), api.ErrNone},
		{d.Rename("x", ""), api.ErrNone},
		{d.Rename("", ""), api.ErrNone},
		{d.Rename(long, "c"), api.ErrNone},
		{d.Rename("x", long), api.ErrNone},
		{d.Rename("a", ""), api.ErrArg},
		{d.Rename("a", long), api.ErrArg},
		{d.Rename("a", "a"), api.ErrArg},
		{d.Sync(""), api.ErrNone},
		{d.Remove(""), api.ErrNone},
		{d.Create(""), api.ErrArg},
		{d.Create(long), api.ErrArg},
		{d.Create("a"), api.ErrThere},
		{d.Append("a", big[:1]), api.ErrFull},
		{read("a", 0, 3), api.OK},
		{d.Append("a", nil), api.ErrIO},
		{d.Append("a", nil), api.OK},
	} {
		if x.got != x.want {
			t.Errorf("call %d: %d; want %d", i, x.got, x.want)
		}
	}
	if got := shown(t, d); got != "a=abc b=" || d.Done() != 4 {
		t.Error(got, d.Done())
	}
}

// P8.1, H2: all ranges of short files, and ones at all edges of numbers.
func TestRead(t *testing.T) {
	h := hold(t, 100)
	for i, name := range names() {
		h.create(name)
		h.append(name, text(i*3, 5))
	}
	edges := []int{math.MinInt, math.MinInt + 1, -1 << 32, -9, -1, 0, 1, 2, 3, 4, 5, 6, 7, 8, 9, 10, 11, 1 << 31, 1 << 32, 1<<32 + 1, 1 << 62, math.MaxInt - 9, math.MaxInt - 1, math.MaxInt}
	for _, name := range append(names(), "none") {
		for _, at := range edges {
			for _, n := range edges {
				h.read(name, at, n)
			}
		}
	}
	if h.d.Done() != 8 {
		t.Error("a read is no thing")
	}
}

// P8.1: when it is down all things, and Read, have ErrDown, ahead of all others, and change nothing; what else is asked is answered.
func TestDown(t *testing.T) {
	h := hold(t, 6)
	for _, name := range names()[:2] {
		h.create(name)
		h.append(name, []byte("abc"))
	}
	h.cut(0)
	h.syncDir()
	for range 2 {
		for _, name := range append(names(), "", "x", strings.Repeat("x", 17)) {
			_, e := h.read(name, -1, 99)
			all := []api.Errno{e, h.create(name), h.append(name, nil), h.append(name, []byte("too much")), h.sync(name), h.remove(name), h.rename(name, "c"), h.rename(name, name), h.rename("a", name), h.syncDir()}
			if slices.ContainsFunc(all, func(e api.Errno) bool { return e != api.ErrDown }) {
				t.Errorf("%q: %v", name, all)
			}
		}
		h.fail(0)
		h.cut(0)
	}
	if n, is := h.d.Size("a"); n != 3 || !is || h.d.Used() != 6 || h.d.Done() != 4 || !slices.Equal(h.d.List(), []string{"a", "b"}) {
		t.Error(n, is, h.d.Used(), h.d.Done(), h.d.List())
	}
	if !h.flip("a", 0, 2) || h.flip("a", 24, 1) || h.flip("x", 0, 1) {
		t.Error("flip")
	}
	h.boot(9, []int{9})
	if got := shown(t, h.d); got != "a=cbc b=abc" {
		t.Error(got)
	}
	if h.create("c") != api.OK {
		t.Error("something was still to go wrong")
	}
}

// wrong does to a disk of no more room, of the files a and b, all that has an error though nothing goes wrong with it, and what is no thing.
func wrong(h *held) {
	h.t.Helper()
	h.create("")
	h.create("a")
	h.append("x", nil)
	h.append("a", []byte("more"))
	h.sync("x")
	h.rename("x", "y")
	h.rename("a", "")
	h.rename("a", "a")
	h.remove("x")
	h.read("a", 0, 1)
	h.read("x", 0, 1)
	h.flip("a", 0, 0)
}

// P8.1, H4: what has another error is no thing: nothing goes wrong with it, nor sooner.
func TestOnlyThingsCount(t *testing.T) {
	for after := range 4 {
		for _, cuts := range []bool{false, true} {
			h := hold(t, 3)
			h.create("a")
			h.create("b")
			h.append("a", []byte("abc"))
			if cuts {
				h.cut(after)
			} else {
				h.fail(after)
			}
			for range after {
				wrong(h)
				if e := h.sync("a"); e != api.OK {
					t.Fatal(after, e)
				}
			}
			wrong(h)
			want := api.ErrIO
			if cuts {
				want = api.ErrDown
			}
			if e := h.sync("a"); e != want || h.d.Down() != cuts {
				t.Error(after, cuts, e, h.d.Down())
			}
		}
	}
}

// things are all kinds of things, each of which can be done to a disk of the files a and b.
func things() map[string]func(h *held) api.Errno {
	return map[string]func(h *held) api.Errno{
		"create":      func(h *held) api.Errno { return h.create("c") },
		"append":      func(h *held) api.Errno { return h.append("a", []byte("xy")) },
		"append none": func(h *held) api.Errno { return h.append("a", nil) },
		"sync":        func(h *held) api.Errno { return h.sync("b") },
		"rename":      func(h *held) api.Errno { return h.rename("a", "c") },
		"rename over": func(h *held) api.Errno { return h.rename("a", "b") },
		"remove":      func(h *held) api.Errno { return h.remove("a") },
		"syncdir":     func(h *held) api.Errno { return h.syncDir() },
	}
}

// P8.1, H4, and P8.4: each kind of thing goes wrong, when it is to, and has changed nothing then, behind a Boot either; what is done again is done.
func TestEachThingGoesWrong(t *testing.T) {
	for what, do := range things() {
		for _, x := range []struct {
			fail, cut int
			want      []api.Errno
		}{
			{0, -1, []api.Errno{api.ErrIO, api.OK}},
			{-1, 0, []api.Errno{api.ErrDown, api.ErrDown}},
			{0, 0, []api.Errno{api.ErrDown, api.ErrDown}},
			{0, 1, []api.Errno{api.ErrIO, api.ErrDown}},
			{1, 0, []api.Errno{api.ErrDown, api.ErrDown}},
			{-1, -1, []api.Errno{api.OK}},
			{1, 1, []api.Errno{api.OK}},
		} {
			for dirs := range 5 {
				for _, list := range [][]int{nil, {1, 2}, {9}} {
					h := hold(t, 20)
					h.create("a")
					h.append("a", []byte("abc"))
					h.syncDir()
					h.create("b")
					h.append("b", []byte("defg"))
					h.fail(x.fail)
					h.cut(x.cut)
					for i, want := range x.want {
						if e := do(h); e != want {
							t.Fatalf("%s %d %d, %d: %d; want %d", what, x.fail, x.cut, i, e, want)
						}
					}
					h.boot(dirs, list)
					for range 3 {
						if e := h.syncDir(); e != api.OK {
							t.Fatal(what, e)
						}
					}
				}
			}
		}
	}
}

// P8.1, H4: one thing fails, and power is cut, each at its place, whatever the other one does.
func TestFailAndCut(t *testing.T) {
	const none = 9
	for fail := range none + 1 {
		for cut := range none + 1 {
			for ahead := range 3 {
				h := hold(t, 0)
				h.create("a")
				h.fail(fail)
				for range ahead {
					h.sync("a")
				}
				h.cut(cut)
				for i := range none {
					want := api.OK
					if i+ahead == fail {
						want = api.ErrIO
					}
					if i >= cut {
						want = api.ErrDown
					}
					if e := h.sync("a"); e != want {
						t.Errorf("fail %d, cut %d behind %d: %d: %d; want %d", fail, cut, ahead, i, e, want)
					}
				}
			}
		}
	}
}

// P8.1, H4: below 0 changes nothing; another number is in place of the one that was. The greatest number is no other.
func TestFailAndCutAgain(t *testing.T) {
	for _, first := range []int{-1, 0, 1, 3, math.MaxInt} {
		for _, second := range []int{math.MinInt, -1 << 32, -1, 0, 2, 4, math.MaxInt} {
			for _, cuts := range []bool{false, true} {
				h := hold(t, 0)
				h.create("a")
				set, want := h.fail, api.ErrIO
				if cuts {
					set, want = h.cut, api.ErrDown
				}
				set(first)
				set(second)
				at := first
				if second >= 0 {
					at = second
				}
				for i := range 6 {
					e := h.sync("a")
					if i == at && e != want || (i < at || at < 0) && e != api.OK {
						t.Errorf("%d, %d, cuts %t: %d: %d", first, second, cuts, i, e)
					}
				}
			}
		}
	}
}

// P8.1, H5: nothing is to go wrong behind a Boot, whatever was to ahead of it, and power is there.
func TestBootEndsTrouble(t *testing.T) {
	for n := range 4 {
		h := hold(t, 0)
		h.create("a")
		h.fail(n + 1)
		h.cut(n)
		for range n + 1 {
			h.sync("a")
		}
		if !h.d.Down() {
			t.Fatal("not down")
		}
		h.fail(n)
		h.cut(n)
		for range 2 {
			h.boot(1, nil)
			for range 5 {
				if e := h.sync("a"); e != api.OK {
					t.Error(n, e)
				}
			}
			h.fail(n)
			h.cut(n + 1)
		}
	}
}

// dirsToTry are numbers of what is pending, the greatest and the least ones too.
func dirsToTry(most int) []int {
	all := []int{math.MinInt, -1 << 32, -2, -1, most + 1, most + 2, 1 << 32, math.MaxInt}
	for n := range most + 1 {
		all = append(all, n)
	}
	return all
}

// P8.1, H5, and P8.3: of all scripts of five changes of two names, with what is kept at each place, each number of changes is done again.
func TestBootOfAllChanges(t *testing.T) {
	changes := []func(h *held){
		func(h *held) { h.create("a") },
		func(h *held) { h.create("b") },
		func(h *held) { h.rename("a", "b") },
		func(h *held) { h.rename("b", "a") },
		func(h *held) { h.remove("a") },
		func(h *held) { h.remove("b") },
	}
	for code := range 6 * 6 * 6 * 6 {
		for kept := range 5 {
			for dirs := -1; dirs <= 5-kept; dirs++ {
				h := hold(t, 9)
				at := code
				for i := range 4 {
					if i == kept {
						h.syncDir()
					}
					changes[at%6](h)
					h.append("a", []byte{byte('0' + i)})
					at /= 6
				}
				h.boot(dirs, []int{9})
				h.boot(0, nil)
			}
		}
	}
}

// P8.1, H5: numbers of changes that are far too great, or below 0.
func TestBootDirs(t *testing.T) {
	for _, dirs := range dirsToTry(4) {
		h := hold(t, 9)
		h.create("x")
		h.syncDir()
		h.create("a")
		h.rename("a", "b")
		h.remove("x")
		h.create("c")
		h.boot(dirs, nil)
		h.create("d")
		h.boot(dirs, nil)
		h.boot(9, nil)
	}
}

// P8.1, H5: how many bytes of each file are there again, of all numbers, at the edges of what was not kept.
func TestBootBytes(t *testing.T) {
	for all := range 6 {
		for kept := range all + 1 {
			for _, n := range []int{math.MinInt, -1 << 32, -1, 0, 1, 2, 3, 4, 5, 6, 1 << 32, math.MaxInt - 5, math.MaxInt} {
				h := hold(t, 20)
				h.create("a")
				h.append("a", text(kept, 1))
				h.sync("a")
				h.append("a", text(all-kept, 2))
				h.boot(1, []int{n})
				size, _ := h.d.Size("a")
				if want := kept + min(max(n, 0), all-kept); size != want {
					t.Errorf("%d of %d are kept, %d more: %d; want %d", kept, all, n, size, want)
				}
				h.append("a", []byte("xyz"))
				h.boot(0, nil)
				h.append("a", []byte("uvw"))
				h.boot(0, []int{1})
			}
		}
	}
}

// P8.1, H5: which of the numbers is a file's hangs on how many were made ahead of it: those count that are removed, lost, or moved over, and no others.
func TestBootCountsWhatWasMade(t *testing.T) {
	for count := range 9 {
		list := make([]int, count)
		for i := range list {
			list[i] = i + 1
		}
		h := hold(t, 1000)
		h.create("gone")
		h.create("gone")
		h.remove("gone")
		h.create("over")
		h.create("a")
		h.rename("a", "over")
		h.fail(0)
		h.create("failed")
		h.create("")
		h.syncDir()
		h.create("lost")
		h.boot(0, nil)
		for _, name := range []string{"z", "y", "x", "w", "v"} {
			h.create(name)
			h.append(name, text(20, 3))
		}
		h.append("over", text(20, 3))
		h.syncDir()
		h.rename("y", "zz")
		h.boot(1, list)
		var sizes []int
		for _, name := range []string{"over", "z", "zz", "x", "w", "v"} {
			n, _ := h.d.Size(name)
			sizes = append(sizes, n)
		}
		want := make([]int, 6)
		for i, made := range []int{2, 4, 5, 6, 7, 8} {
			if count > 0 {
				want[i] = 1 + made%count
			}
		}
		if !slices.Equal(sizes, want) {
			t.Errorf("%d numbers: %v; want %v", count, sizes, want)
		}
	}
}

// P8.1, H5, and P8.2: what is there behind a Boot is kept: another one takes nothing of it.
func TestBootKeepsAll(t *testing.T) {
	for dirs := range 4 {
		for more := range 4 {
			h := hold(t, 20)
			h.create("a")
			h.append("a", []byte("abc"))
			h.create("b")
			h.append("b", []byte("def"))
			h.rename("b", "c")
			h.boot(dirs, []int{more})
			ahead := shown(t, h.d)
			for _, list := range [][]int{nil, {-1}, {0}, {9}} {
				h.boot(-1, list)
				h.boot(9, list)
				if got := shown(t, h.d); got != ahead {
					t.Errorf("%s; was %s", got, ahead)
				}
			}
		}
	}
}

// P8.1, H1, H3 and H5: behind a Boot there may be more bytes than there may be: then nothing is appended, not even nothing, until there are less.
func TestBootOfMoreThanMost(t *testing.T) {
	h := hold(t, 4)
	h.create("a")
	h.append("a", []byte("abc"))
	h.sync("a")
	h.create("b")
	h.syncDir()
	h.remove("a")
	h.append("b", []byte("defg"))
	h.sync("b")
	h.boot(0, nil)
	if h.d.Used() != 7 || h.append("a", nil) != api.ErrFull || h.append("b", []byte("x")) != api.ErrFull {
		t.Error(h.d.Used())
	}
	h.rename("b", "a")
	if h.d.Used() != 4 || h.append("a", nil) != api.OK || h.append("a", []byte("x")) != api.ErrFull {
		t.Error(h.d.Used())
	}
}

// P8.1, H5: all places of short files, with bits of all kinds, and places at all edges of numbers.
func TestFlip(t *testing.T) {
	bits := []uint32{0, 1, 2, 3, 5, 0x80, 0xff, 0x100, 0x8001, 0x10000, 0x80000000, 0x80000001, 0xf0f0f0f0, 0xdeadbeef, 0xffffffff}
	for n := range 8 {
		h := hold(t, 20)
		h.create("a")
		h.append("a", text(n, 4))
		for at := -10; at <= 8*n+40; at++ {
			for _, x := range bits {
				if is := h.flip("a", at, x); is != (at >= 0 && at < 8*n) {
					t.Errorf("%d of %d bytes: %t", at, n, is)
				}
			}
		}
		for _, at := range []int{math.MinInt, math.MinInt + 1, -1 << 61, -1 << 32, 1 << 32, 1<<32 + 1, 1 << 61, 1 << 62, math.MaxInt - 31, math.MaxInt} {
			h.flip("a", at, 0xffffffff)
			h.flip("none", at, 1)
		}
		if n > 0 && h.d.Done() != 2 {
			t.Error("a flip is a thing")
		}
	}
}

// P8.1, H5: single flips, written out by hand: bits are counted from the first byte's lowest one on.
func TestFlipExamples(t *testing.T) {
	for _, x := range []struct {
		at   int
		bits uint32
		want []byte
	}{
		{0, 1, []byte{1, 0, 0, 0, 0, 0}},
		{0, 0x80, []byte{0x80, 0, 0, 0, 0, 0}},
		{7, 1, []byte{0x80, 0, 0, 0, 0, 0}},
		{7, 3, []byte{0x80, 1, 0, 0, 0, 0}},
		{8, 1, []byte{0, 1, 0, 0, 0, 0}},
		{0, 0x04030201, []byte{1, 2, 3, 4, 0, 0}},
		{7, 0xffffffff, []byte{0x80, 0xff, 0xff, 0xff, 0x7f, 0}},
		{1, 0x80000000, []byte{0, 0, 0, 0, 1, 0}},
		{47, 0xffffffff, []byte{0, 0, 0, 0, 0, 0x80}},
		{40, 0xffffff05, []byte{0, 0, 0, 0, 0, 5}},
		{20, 0, []byte{0, 0, 0, 0, 0, 0}},
	} {
		d := disk.New(6)
		script(t, d, "+a")
		d.Append("a", make([]byte, 6))
		if !d.Flip("a", x.at, x.bits) {
			t.Fatal(x.at)
		}
		if b, _ := d.Read("a", 0, 6); !bytes.Equal(b, x.want) {
			t.Errorf("%d, %x: %x; want %x", x.at, x.bits, b, x.want)
		}
	}
}

// P8.1, H5: bits behind the end count for nothing, behind what is appended there either; what has turned stays so, kept or not.
func TestFlipAtTheEnd(t *testing.T) {
	h := hold(t, 50)
	h.create("a")
	h.append("a", []byte("abcdefgh"))
	h.boot(1, []int{2})
	for range 3 {
		h.flip("a", 8, 0xffffffff)
		h.append("a", []byte("xy"))
		h.sync("a")
		h.flip("a", 30, 0xff)
		h.append("a", []byte("z"))
		h.flip("a", 36, 0xff)
		h.boot(0, []int{1})
	}
}

// step does anything to a disk.
func step(h *held, c *chance) {
	h.t.Helper()
	all := names()
	name, other := all[c.below(len(all))], all[c.below(len(all))]
	switch c.below(16) {
	case 0, 1:
		h.create(name)
	case 2, 3, 4:
		h.append(name, text(c.below(9), uint64(c.below(99))))
	case 5, 6:
		h.sync(name)
	case 7, 8:
		h.rename(name, other)
	case 9:
		h.remove(name)
	case 10:
		h.syncDir()
	case 11:
		h.fail(c.below(12) - 2)
	case 12:
		h.cut(c.below(30) - 2)
	case 13:
		h.flip(name, c.below(200)-5, uint32(c.below(1<<31)))
	case 14:
		h.read(name, c.below(20)-2, c.below(20)-2)
	case 15:
		list := make([]int, c.below(4))
		for i := range list {
			list[i] = c.below(12) - 2
		}
		h.boot(c.below(12)-2, list)
	}
}

// P8.1, and P1: any calls, a great many of them.
func TestAnyCalls(t *testing.T) {
	c := chance(8)
	for round := range 400 {
		h := hold(t, []int{0, 5, 20, 1000}[round%4])
		for range 300 {
			step(h, &c)
		}
	}
}

// witness is a disk, and what must be there behind a Boot, told by nothing but what was done and had no error.
type witness struct {
	d      *disk.Disk
	whose  map[string]*[]byte   // whose bytes each name has
	synced map[*[]byte]int      // how many of them were synced
	times  []map[string]*[]byte // what whose was, since names were kept
}

// do does something, and writes it down if it had no error.
func (w *witness) do(c *chance) {
	all := names()
	name, other := all[c.below(len(all))], all[c.below(len(all))]
	is := func(e api.Errno) bool { return e == api.OK }
	mark := func() { w.times = append(w.times, maps.Clone(w.whose)) }
	switch c.below(10) {
	case 0, 1, 2:
		if is(w.d.Create(name)) {
			w.whose[name] = new([]byte)
			mark()
		}
	case 3, 4:
		b := text(c.below(5), uint64(c.below(99)))
		if is(w.d.Append(name, b)) {
			*w.whose[name] = append(*w.whose[name], b...)
		}
	case 5, 6:
		if is(w.d.Sync(name)) {
			w.synced[w.whose[name]] = len(*w.whose[name])
		}
	case 7:
		if is(w.d.Rename(name, other)) {
			w.whose[other] = w.whose[name]
			delete(w.whose, name)
			mark()
		}
	case 8:
		if is(w.d.Remove(name)) {
			delete(w.whose, name)
			mark()
		}
	case 9:
		if is(w.d.SyncDir()) {
			w.times = []map[string]*[]byte{maps.Clone(w.whose)}
		}
	}
}

// fits is whether the disk has those names, and of each file all that was synced, and of what was appended a beginning.
func (w *witness) fits(names map[string]*[]byte) bool {
	if !slices.Equal(w.d.List(), slices.Sorted(maps.Keys(names))) {
		return false
	}
	for name, whole := range names {
		n, _ := w.d.Size(name)
		b, e := w.d.Read(name, 0, n)
		if e != api.OK || n < w.synced[whole] || !bytes.HasPrefix(*whole, b) {
			return false
		}
	}
	return true
}

// P8.2 and P8.3: wherever power fails, and whatever fails ahead of it, names are as they were at some time since they were kept, what was synced is there, and what was not is a beginning of what was appended.
func TestKeptAndInOrder(t *testing.T) {
	c := chance(21)
	for round := range 20000 {
		w := &witness{disk.New(60), map[string]*[]byte{}, map[*[]byte]int{}, []map[string]*[]byte{{}}}
		for range 20 {
			w.do(&c)
		}
		w.d.Fail(c.below(10) - 1)
		w.d.Cut(c.below(30) - 1)
		for range 20 {
			w.do(&c)
		}
		list := make([]int, c.below(4))
		for i := range list {
			list[i] = c.below(10) - 1
		}
		dirs := c.below(len(w.times)+2) - 1
		w.d.Boot(dirs, list)
		if !slices.ContainsFunc(w.times, w.fits) {
			t.Fatalf("round %d: boot of %d and %v: %s: this never was", round, dirs, list, shown(t, w.d))
		}
		if !w.fits(w.times[min(max(dirs, 0), len(w.times)-1)]) {
			t.Fatalf("round %d: boot of %d and %v: %s: this was at another time", round, dirs, list, shown(t, w.d))
		}
	}
}

// anything is something that may be done to a disk.
func anything(c *chance) func(d *disk.Disk) api.Errno {
	all := append(names(), "", strings.Repeat("x", 17))
	name, other := all[c.below(len(all))], all[c.below(len(all))]
	b := text(c.below(12), uint64(c.below(99)))
	return []func(d *disk.Disk) api.Errno{
		func(d *disk.Disk) api.Errno { return d.Create(name) },
		func(d *disk.Disk) api.Errno { return d.Append(name, b) },
		func(d *disk.Disk) api.Errno { return d.Sync(name) },
		func(d *disk.Disk) api.Errno { return d.Rename(name, other) },
		func(d *disk.Disk) api.Errno { return d.Remove(name) },
		func(d *disk.Disk) api.Errno { return d.SyncDir() },
	}[c.below(6)]
}

// P8.4: a disk on which much has an error, at last as power fails, is like one to which only that was done that had none, behind a Boot too.
func TestErrorsChangeNothing(t *testing.T) {
	c := chance(31)
	for round := range 5000 {
		d, other := disk.New(30), disk.New(30)
		for i := range 40 {
			do := anything(&c)
			if i == 30 {
				d.Cut(c.below(10))
			} else if c.below(3) == 0 {
				d.Fail(0)
			}
			if do(d) == api.OK && do(other) != api.OK {
				t.Fatalf("round %d: what has no error here has one there", round)
			}
			if !d.Down() && shown(t, d) != shown(t, other) {
				t.Fatalf("round %d: %s; want %s", round, shown(t, d), shown(t, other))
			}
			if d.Used() != other.Used() || d.Done() != other.Done() || !slices.Equal(d.List(), other.List()) {
				t.Fatalf("round %d: used %d, done %d, %q; want %d, %d, %q", round, d.Used(), d.Done(), d.List(), other.Used(), other.Done(), other.List())
			}
		}
		dirs, list := c.below(12)-1, []int{c.below(5), c.below(5)}
		d.Boot(dirs, list)
		other.Boot(dirs, list)
		if got, want := shown(t, d), shown(t, other); got != want {
			t.Fatalf("round %d: boot of %d and %v: %s; want %s", round, dirs, list, got, want)
		}
	}
}

// P3: what is handed in is as it was, and its spare room.
func TestArgumentsStay(t *testing.T) {
	room := text(60, 8)
	bytesAhead := bytes.Clone(room)
	list := []int{3, -1, 99, 0, 7, 5}
	listAhead := slices.Clone(list)
	c := chance(3)
	for range 200 {
		d := disk.New(500)
		script(t, d, "+a +b")
		for range 10 {
			from := c.below(30)
			d.Append("a", room[from:from+c.below(30)])
			d.Append("b", room[:from])
			d.Flip("a", c.below(100), 0xffffffff)
			d.Boot(9, list[:c.below(6)])
			d.Flip("b", c.below(100), 0xffffffff)
			d.Append("a", []byte("other"))
		}
		if !bytes.Equal(room, bytesAhead) || !slices.Equal(list, listAhead) {
			t.Fatal("what was handed in has changed")
		}
	}
}

// P3: bytes that are handed in are not kept: who writes over them behind a call changes nothing.
func TestBytesAreNotKept(t *testing.T) {
	h := hold(t, 5000)
	h.create("a")
	b := make([]byte, 40)
	for n := range 40 {
		copy(b, text(40, uint64(n)))
		h.append("a", b[:n])
		clear(b)
		h.same()
		if n%5 == 0 {
			h.boot(9, []int{n})
		}
	}
}

// P3: nor are names, of which nothing is kept but what they tell: who has a text be another one behind a call changes nothing.
func TestNamesAreNotKept(t *testing.T) {
	d := disk.New(9)
	b := make([]byte, 3)
	to := make([]byte, 3)
	name := func(b []byte, s string) string {
		copy(b, s)
		return unsafe.String(&b[0], len(b))
	}
	for i, x := range []struct{ got, want api.Errno }{
		{d.Create(name(b, "one")), api.OK},
		{d.SyncDir(), api.OK},
		{d.Create(name(b, "two")), api.OK},
		{d.Rename(name(b, "one"), name(to, "six")), api.OK},
		{d.Remove(name(b, "two")), api.OK},
		{d.Create(name(b, "ten")), api.OK},
	} {
		if x.got != x.want {
			t.Fatal(i, x.got)
		}
	}
	name(b, "zzz")
	name(to, "zzz")
	for _, x := range []struct {
		dirs int
		want []string
	}{{4, []string{"six", "ten"}}, {0, []string{"six", "ten"}}} {
		if got := d.List(); !slices.Equal(got, []string{"six", "ten"}) {
			t.Errorf("%q", got)
		}
		d.Boot(x.dirs, nil)
		if got := d.List(); !slices.Equal(got, x.want) {
			t.Errorf("boot of %d: %q; want %q", x.dirs, got, x.want)
		}
	}
	if n, is := d.Size("ten"); n != 0 || !is || d.Remove("six") != api.OK {
		t.Error("names have changed")
	}
}

// P3: what comes out is new memory, its spare room too: who writes over it changes nothing, nor does it change.
func TestAnswersAreNew(t *testing.T) {
	for n := range 40 {
		h := hold(t, 500)
		h.create("a")
		h.create("b")
		h.append("a", text(n, 5))
		h.append("a", text(n, 6))
		for from := range n {
			first, _ := h.read("a", from, n)
			second, _ := h.read("a", from, n)
			ahead := bytes.Clone(second)
			clear(first[:cap(first)])
			h.flip("a", 8*from, 0xff)
			if !bytes.Equal(second, ahead) {
				t.Fatal("what was read has changed")
			}
			h.append("a", first[:min(len(first), 3)])
		}
		list := h.d.List()
		clear(list[:cap(list)])
		h.same()
	}
}

// P3: no answer hangs on another disk's calls.
func TestDisksAreTheirOwn(t *testing.T) {
	c := chance(15)
	var all []*held
	for i := range 12 {
		all = append(all, hold(t, 10*i))
	}
	for range 4000 {
		step(all[c.below(len(all))], &c)
	}
	for _, h := range all {
		h.same()
	}
}

// P3: asking changes nothing, however often it is done.
func TestAskingChangesNothing(t *testing.T) {
	h := hold(t, 9)
	h.create("a")
	h.fail(1)
	for i := range 3 {
		for range 4 {
			h.same()
			h.read("a", -1, 0)
			h.read("none", 0, 0)
		}
		want := api.OK
		if i == 1 {
			want = api.ErrIO
		}
		if e := h.append("a", []byte{byte(i)}); e != want {
			t.Error(i, e)
		}
	}
}

// P1: names, bytes and numbers of all kinds, in all calls; each ends.
func TestAllArguments(t *testing.T) {
	texts := []string{"", "a", "b", "\xff\xfe", strings.Repeat("x", 16), strings.Repeat("x", 17), strings.Repeat("x", 1<<10)}
	numbers := []int{math.MinInt, -1, 0, 1, 7, 8, 1 << 31, 1 << 32, math.MaxInt}
	for _, most := range numbers {
		h := hold(t, most)
		for _, name := range texts {
			for _, to := range texts {
				h.create(name)
				h.append(name, []byte(to)[:min(len(to), 20)])
				h.rename(name, to)
				h.append(name, nil)
				h.sync(to)
				h.remove(name)
			}
			for _, n := range numbers {
				for _, m := range numbers {
					h.read(name, n, m)
					h.flip(name, n, uint32(m))
				}
				h.fail(n)
				h.cut(n)
				h.syncDir()
				h.boot(n, numbers)
			}
		}
	}
}

// P8.1: many changes that are kept one by one, or all at once, and many bytes, one by one.
func TestManyThings(t *testing.T) {
	d := disk.New(api.MaxDisk)
	for i := range 200000 {
		from, to := "a"+strconv.Itoa(i%4000), "b"+strconv.Itoa(i%3999)
		e := d.Create(from)
		e = max(e, d.Append(from, []byte{byte(i)}))
		e = max(e, d.Sync(from))
		e = max(e, d.Rename(from, to))
		if i < 100000 {
			e = max(e, d.SyncDir())
		}
		if e != api.OK {
			t.Fatal(i, e)
		}
	}
	if len(d.List()) != 3999 || d.Used() != 3999 || d.Done() != 900000 {
		t.Error(len(d.List()), d.Used(), d.Done())
	}
	d.Boot(100001, nil)
	if n, is := d.Size("a" + strconv.Itoa(150000%4000)); n != 1 || !is {
		t.Error(n, is)
	}
	if len(d.List()) != 4000 {
		t.Error(len(d.List()))
	}
}
