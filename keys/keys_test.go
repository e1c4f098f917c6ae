package keys_test

import (
	"fmt"
	"math"
	"slices"
	"strconv"
	"strings"
	"testing"
	"unsafe"

	"souterrain/api"
	"souterrain/keys"
)

// script does what stands in a text, one thing behind the other, and is what came of each, by these words: a=3 puts a at 3, a- deletes it, a? gets it. What came of one is the number at which the key was, or a point, if it was nowhere.
func script(t *testing.T, d *keys.Dir, todo string) string {
	t.Helper()
	came := ""
	for _, s := range strings.Fields(todo) {
		at := strings.IndexAny(s, "=-?")
		key := s[:at]
		var was api.Place
		is := false
		switch s[at] {
		case '=':
			n, err := strconv.Atoi(s[at+1:])
			if err != nil {
				t.Fatal(todo, err)
			}
			was, is = d.Put(place(key, n))
		case '-':
			was, is = d.Del(key)
		case '?':
			was, is = d.Get(key)
		}
		switch {
		case !is && was == api.Place{}:
			came += "."
		case is && was == place(key, was.Seg-1):
			came += strconv.Itoa(was.Seg - 1)
		default:
			came += fmt.Sprint(was, is)
		}
	}
	return came
}

// P13.1, M1 and M2, and P13.2: what was written out by hand, the document's example ahead of all.
func TestExamples(t *testing.T) {
	for _, x := range []struct{ todo, came, want string }{
		{"b=1 a=2", "..", "a b"},
		{"", "", ""},
		{"a? a- a?", "...", ""},
		{"a=1 a?", ".1", "a"},
		{"a=1 b? a?", "..1", "a"},
		{"=1 ? a?", ".1.", "\"\""},
		{"a=1 =2 a? ?", "..12", "\"\" a"},
		{"a=1 =2 - ? a?", "..2.1", "a"},
		{"a=1 a=2 a?", ".12", "a"},
		{"a=1 a=1 a?", ".11", "a"},
		{"a=1 a=2 a=3 a=1 a?", ".1231", "a"},
		{"a=1 b=2 a=3 a? b?", "..132", "a b"},
		{"a=1 a- a? a-", ".1..", ""},
		{"a=1 a- a=2 a?", ".1.2", "a"},
		{"a=1 a=2 a- a? a=3 a- a-", ".12..3.", ""},
		{"a=1 b=2 c=3 b- a? b? c? b-", "...21.3.", "a c"},
		{"a=1 b=2 c=3 a- c- b? a? c?", "...132..", "b"},
		{"a=1 b=2 c=3 d-", "....", "a b c"},
		{"c=1 b=2 a=3 b- b=4 a?", "...2.3", "a b c"},
		{"ab=1 a=2 abc=3 b=4 a? ab? abc? b?", "....2134", "a ab abc b"},
		{"ab=1 a=2 a- ab? a?", "..21.", "ab"},
		{"ab=1 a=2 ab- ab? a?", "..1.2", "a"},
		{"10=1 9=2 100=3 1=4", "....", "1 10 100 9"},
		{"B=1 a=2 A=3 b=4", "....", "A B a b"},
	} {
		d := keys.New()
		came := script(t, d, x.todo)
		want := strings.Fields(strings.ReplaceAll(x.want, "\"\"", "<>"))
		for i := range want {
			want[i] = strings.ReplaceAll(want[i], "<>", "")
		}
		if got := d.List(); came != x.came || !slices.Equal(got, want) || d.Many() != len(want) {
			t.Errorf("%s: %s, %q, %d; want %s, %q", x.todo, came, got, d.Many(), x.came, want)
		}
	}
}

// P13.1, M1, and P13.3: keys from one on, written out by hand.
func TestExamplesOfFrom(t *testing.T) {
	d := keys.New()
	script(t, d, "c=1 a=2 bb=3 =4 b=5 x=6 x-")
	for _, x := range []struct {
		key  string
		many int
		want []string
	}{
		{"", 0, nil},
		{"", 1, []string{""}},
		{"", 2, []string{"", "a"}},
		{"", 4, []string{"", "a", "b", "bb"}},
		{"", 5, []string{"", "a", "b", "bb", "c"}},
		{"", 6, []string{"", "a", "b", "bb", "c"}},
		{"", math.MaxInt, []string{"", "a", "b", "bb", "c"}},
		{"", -1, nil},
		{"", math.MinInt, nil},
		{"\x00", 2, []string{"a", "b"}},
		{"a", 0, nil},
		{"a", 1, []string{"a"}},
		{"a", 4, []string{"a", "b", "bb", "c"}},
		{"a", 5, []string{"a", "b", "bb", "c"}},
		{"a", -1, nil},
		{"a\x00", 1, []string{"b"}},
		{"aa", 2, []string{"b", "bb"}},
		{"b", 9, []string{"b", "bb", "c"}},
		{"ba", 9, []string{"bb", "c"}},
		{"bb", 1, []string{"bb"}},
		{"bbb", 9, []string{"c"}},
		{"c", 9, []string{"c"}},
		{"c", 0, nil},
		{"c\x00", 9, nil},
		{"d", 9, nil},
		{"d", 0, nil},
		{"x", 9, nil},
		{"\xff", math.MaxInt, nil},
		{"\xff", math.MinInt, nil},
	} {
		if got := d.From(x.key, x.many); !slices.Equal(got, x.want) {
			t.Errorf("%d from %q on: %q; want %q", x.many, x.key, got, x.want)
		}
	}
}

// P13.1, M1, and P2: a new one has no keys, whatever is asked for, and deleted.
func TestNew(t *testing.T) {
	h := hold(t)
	h.same()
	for _, key := range oddKeys() {
		h.no(h.get(key))
		h.no(h.del(key))
		for _, many := range manys(0) {
			h.from(nil, key, many)
		}
	}
	h.same()
}

// P13.1, M1 and M2: one key, of any bytes, put, put again, deleted, and put again.
func TestOneKey(t *testing.T) {
	for i, key := range oddKeys() {
		h := hold(t)
		for round := range 3 {
			h.no(h.get(key))
			h.no(h.put(place(key, i)))
			h.yes(h.get(key))
			h.same()
			for _, other := range append(near(key), "k") {
				if other != key {
					h.no(h.get(other))
					h.no(h.del(other))
				}
				for _, many := range manys(1) {
					h.from([]string{key}, other, many)
					h.from([]string{key}, key, many)
				}
			}
			h.yes(h.put(place(key, i+round)))
			h.yes(h.put(place(key, i+9)))
			h.same()
			h.yes(h.del(key))
			h.no(h.del(key))
			h.same()
		}
	}
}

// P13.1, M2, and P1: a place is told as it was put, be it one that may be or not.
func TestAnyPlaces(t *testing.T) {
	numbers := []int{0, 1, -1, 13, api.MaxSeg, api.MaxAt, 1 << 31, 1 << 32, -1 << 40, math.MaxInt, math.MinInt}
	h := hold(t)
	for _, key := range []string{"", "a", "\xff"} {
		for _, n := range numbers {
			for field := range 4 {
				p := api.Place{Seg: 1, Hint: api.Hint{Kind: api.Root, Key: key, At: 13, Size: 40}}
				*[]*int{&p.Seg, &p.Hint.Kind, &p.Hint.At, &p.Hint.Size}[field] = n
				h.put(p)
				h.same()
			}
		}
		h.put(api.Place{Hint: api.Hint{Key: key}})
		h.same()
	}
	for _, key := range []string{"a", "", "\xff"} {
		h.yes(h.del(key))
		h.same()
	}
}

// P13.2, and P13.3: all odd keys at once, each put in turn, put again, deleted, and put again: the others are as they were.
func TestOddKeys(t *testing.T) {
	h := hold(t)
	all := oddKeys()
	for i, key := range all {
		h.no(h.put(place(key, i)))
	}
	h.same()
	for i, key := range all {
		h.yes(h.put(place(key, 1000+i)))
		if i%20 == 0 {
			h.same()
		}
	}
	h.same()
	for i := range all {
		key := all[i*7%len(all)]
		h.yes(h.del(key))
		h.no(h.del(key))
		if i%20 == 0 {
			h.same()
		}
		if i%3 == 0 {
			h.no(h.put(place(key, 2000+i)))
		}
	}
	h.same()
	list := h.p.list()
	for _, key := range all {
		for _, many := range []int{1, 3, 50} {
			h.from(list, key, many)
		}
	}
}

// P13.1, and P2: a Get and a Del of a key that is not there, near to one that is, tell nothing, and change nothing.
func TestNotThere(t *testing.T) {
	h := hold(t)
	all := oddKeys()
	for i, key := range all {
		if i%2 == 0 {
			h.put(place(key, i))
		}
	}
	for _, key := range all {
		for _, other := range near(key) {
			if _, is := h.p[other]; !is {
				h.no(h.get(other))
				h.no(h.del(other))
			}
		}
	}
	h.same()
}

// P13.1 to P13.3, and P3: a few keys, put in each order, and deleted in each: all answers hang on which are there alone.
func TestEachOrder(t *testing.T) {
	all := []string{"", "a", "aa", "b", "\xff"}
	var each func(left []int, then func(order []int))
	each = func(left []int, then func(order []int)) {
		if len(left) == 0 {
			then(nil)
		}
		for i, n := range left {
			rest := slices.Delete(slices.Clone(left), i, i+1)
			each(rest, func(order []int) { then(append([]int{n}, order...)) })
		}
	}
	each([]int{0, 1, 2, 3, 4}, func(in []int) {
		each([]int{0, 1, 2, 3, 4}, func(out []int) {
			h := hold(t)
			for i, n := range in {
				h.no(h.put(place(all[n], i)))
			}
			h.same()
			for _, n := range out {
				h.yes(h.del(all[n]))
				h.same()
			}
		})
	})
}

// P13.1, M1, and P13.3: each number of keys up to some, all numbers of them from each on, and from ahead of, and behind, each.
func TestFrom(t *testing.T) {
	for n := range 26 {
		for _, order := range orders(n) {
			h := hold(t)
			for _, i := range order {
				h.no(h.put(place(fmt.Sprintf("%02d", 2*i+1), i)))
			}
			list := h.p.list()
			for i := range 2*n + 3 {
				key := fmt.Sprintf("%02d", i)
				for many := -1; many < n+3; many++ {
					h.from(list, key, many)
				}
				for _, many := range manys(n) {
					h.from(list, key, many)
					h.from(list, "", many)
				}
			}
			h.same()
		}
	}
}

// P13.1 to P13.3: many more keys than the first rows hold, of each kind, put, put again, deleted in part, put again, deleted all, and put again.
func TestManyKeys(t *testing.T) {
	n := 5000
	for what, key := range families(n) {
		for _, order := range orders(n)[1:] {
			h := hold(t)
			h.what = what
			for i, k := range order {
				h.no(h.put(place(key(k), i)))
			}
			h.same()
			for _, k := range order {
				h.yes(h.put(place(key(k), k)))
			}
			h.same()
			for i, k := range order {
				if i%3 > 0 {
					h.yes(h.del(key(k)))
					h.no(h.get(key(k)))
				}
			}
			h.same()
			for i, k := range order {
				if was := h.put(place(key(k), i)); was != (i%3 == 0) {
					t.Fatal(what, k, was)
				}
			}
			h.same()
			for i := range order {
				h.yes(h.del(key(i)))
				if n-i == 50 {
					h.same()
				}
			}
			h.same()
			h.no(h.put(place(key(7), 7)))
			h.same()
		}
	}
}

// P13.1 to P13.3: as the rows grow, and have less, with each key that is put, and deleted, all is as it is to be.
func TestEachNumberOfKeys(t *testing.T) {
	h := hold(t)
	n := 1600
	for round := range 2 {
		for i := range n {
			h.no(h.put(place(strconv.Itoa(i), round+i)))
			h.yes(h.get(strconv.Itoa(i / 2)))
			h.no(h.get(strconv.Itoa(i + 1)))
			if h.d.Many() != i+1 || i%97 == 0 && len(h.d.List()) != i+1 {
				t.Fatal(i, h.d.Many())
			}
		}
		h.same()
		for i := range n {
			h.yes(h.del(strconv.Itoa(i)))
			h.no(h.get(strconv.Itoa(i / 2)))
			if i+1 < n {
				h.yes(h.get(strconv.Itoa((n + i) / 2)))
			}
			if h.d.Many() != n-1-i || i%97 == 0 && len(h.d.List()) != n-1-i {
				t.Fatal(i, h.d.Many())
			}
		}
		h.same()
	}
}

// P13.3: of many keys the first ones, from many on, and so many of them.
func TestFromOfMany(t *testing.T) {
	n := 2300
	for what, key := range families(n) {
		h := hold(t)
		h.what = what
		for i := range n {
			h.put(place(key(i), i))
		}
		list := h.p.list()
		for _, k := range []int{0, 1, n / 2, n - 2, n - 1} {
			for _, many := range manys(n) {
				h.from(list, list[k], many)
				h.from(list, list[k]+"\x00", many)
				h.from(list, "", many)
			}
			for many := 5; many < n; many = many*3 + 1 {
				h.from(list, list[k], many)
				h.from(list, list[k]+"\x00", many)
			}
		}
		h.from(list, list[n-1]+"z", n)
	}
}

// P13.1 to P13.3: many keys that are hashed alike are told apart, in each order.
func TestHashedAlike(t *testing.T) {
	for what, hash := range hashes() {
		all := alike(t, hash, 8)
		for _, order := range orders(len(all)) {
			h := hold(t)
			h.what = what
			for i, k := range order {
				h.no(h.get(all[k]))
				h.no(h.del(all[k]))
				h.no(h.put(place(all[k], i)))
			}
			h.same()
			for i, k := range order {
				h.yes(h.put(place(all[k], 1000+i)))
			}
			h.same()
			list := h.p.list()
			for i := range 40 {
				h.from(list, list[i*6], 1+i*5)
			}
			for i := range order {
				h.yes(h.del(all[i]))
				h.no(h.get(all[i]))
				h.no(h.del(all[i]))
				if i%50 == 0 {
					h.same()
				}
				if i%4 == 0 {
					h.no(h.put(place(all[i], i)))
				}
			}
			h.same()
			for i := range order {
				if h.del(all[i]) != (i%4 == 0) {
					t.Fatal(i)
				}
			}
			h.same()
		}
	}
}

// P13.1 to P13.3: keys that are hashed alike, among many that aren't.
func TestHashedAlikeAmongMany(t *testing.T) {
	for what, hash := range hashes() {
		h := hold(t)
		h.what = what
		all := alike(t, hash, 6)
		for i := range 40 * len(all) {
			h.no(h.put(place(strconv.Itoa(i), i)))
			if i%40 == 0 {
				h.no(h.put(place(all[i/40], i)))
			}
		}
		h.same()
		for i := range 40 * len(all) {
			h.yes(h.del(strconv.Itoa(i)))
			if i%80 == 0 {
				h.yes(h.del(all[i/40]))
			}
		}
		h.same()
		if h.d.Many() != len(all)/2 {
			t.Error(h.d.Many())
		}
	}
}

// P13.1 to P13.3: keys whose hashes' lowest bits are alike, so that they stand in one row, many more than it holds at first.
func TestOneRow(t *testing.T) {
	for what, hash := range hashes() {
		h := hold(t)
		h.what = what
		var all []string
		for i := 0; len(all) < 200; i++ {
			if key := strconv.Itoa(i); hash(key)%64 == 5 {
				all = append(all, key)
			}
		}
		for round := range 2 {
			for i, key := range all {
				h.no(h.put(place(key, i+round)))
				h.same()
			}
			for _, key := range all {
				h.yes(h.del(key))
				h.same()
			}
		}
	}
}

// P13.1 to P13.3: any calls, a great many of them.
func TestAnyCalls(t *testing.T) {
	c := chance(13)
	odd := oddKeys()
	for round := range 300 {
		h := hold(t)
		all := odd[:290]
		if round%2 == 0 {
			all = []string{"", "a", "b", "ab", "ba", "a\x00", "\xff", "\x80"}[:1+round%8]
		}
		for range 150 {
			key := all[c.below(len(all))]
			switch c.below(6) {
			case 0, 1:
				h.del(key)
			case 2:
				h.get(key)
			default:
				h.put(place(key, c.below(5)))
			}
			if c.below(4) == 0 {
				h.from(h.p.list(), all[c.below(len(all))], c.below(len(all)+3)-1)
			}
		}
		h.same()
	}
}

// P1: no arguments have a call panic, whatever was called ahead of it.
func TestAllArguments(t *testing.T) {
	h := hold(t)
	for _, key := range oddKeys() {
		h.get(key)
		h.del(key)
		h.put(api.Place{Seg: math.MinInt, Hint: api.Hint{Kind: math.MaxInt, Key: key, At: -1, Size: -1}})
		for _, many := range manys(h.d.Many()) {
			h.d.From(key, many)
		}
	}
	h.same()
}

// P3: lists are new memory, their spare room too: who writes over one changes no other, nor the directory.
func TestListsAreNew(t *testing.T) {
	for _, n := range []int{0, 1, 2, 3, 5, 40, 1000} {
		h := hold(t)
		for i := range n {
			h.no(h.put(place(strconv.Itoa(i), i)))
		}
		list := h.p.list()
		for _, many := range []int{1, 2, n / 2, n, n + 1} {
			all, some := h.d.List(), h.d.From("2", many)
			again, againSome := h.d.List(), h.d.From("2", many)
			for _, l := range [][]string{all[:cap(all)], some[:cap(some)]} {
				for i := range l {
					l[i] = "over"
				}
			}
			if !slices.Equal(again, list) || !slices.Equal(againSome, from(list, "2", many)) {
				t.Errorf("of %d keys: lists share memory", n)
			}
			h.same()
		}
	}
}

// P3: lists that were told stay as they were, whatever is put, and deleted, behind that.
func TestListsStay(t *testing.T) {
	for _, n := range []int{1, 5, 60, 2000} {
		h := hold(t)
		for i := range n {
			h.no(h.put(place(strconv.Itoa(2*i), i)))
		}
		all, some := h.d.List(), h.d.From("1", n/2)
		wantAll, wantSome := slices.Clone(all), slices.Clone(some)
		stay := func(what string) {
			if !slices.Equal(all, wantAll) || !slices.Equal(some, wantSome) {
				t.Fatalf("%s: %s, %s; want %s, %s", what, brief(all), brief(some), brief(wantAll), brief(wantSome))
			}
		}
		h.put(place("", 1))
		stay("put ahead of all")
		h.put(place("9z", 1))
		stay("put behind all")
		for i := range n {
			h.put(place(strconv.Itoa(2*i), 7))
			h.put(place(strconv.Itoa(2*i+1), 7))
		}
		stay("put twice")
		for i := range 2 * n {
			h.yes(h.del(strconv.Itoa(i)))
		}
		stay("deleted")
		for i := range n {
			h.put(place(strconv.Itoa(3*i), 8))
		}
		stay("put again")
		h.same()
	}
}

// P3: a place that was told stays as it was, and one that was put does, whoever has it.
func TestPlacesAreValues(t *testing.T) {
	d := keys.New()
	p := place("a", 1)
	d.Put(p)
	p.Seg, p.Hint.At, p.Hint.Key = 99, 98, "b"
	got, is := d.Get("a")
	if !is || got != place("a", 1) {
		t.Error(got, is)
	}
	got.Seg, got.Hint.Size = 97, 96
	if again, is := d.Put(place("a", 2)); !is || again != place("a", 1) {
		t.Error(again, is)
	}
	if got != (api.Place{Seg: 97, Hint: api.Hint{Kind: place("a", 1).Hint.Kind, Key: "a", At: 3, Size: 96}}) {
		t.Error(got)
	}
}

// P3: a text that is handed in is not kept: who has it be another one behind a call changes nothing.
func TestTextsAreNotKept(t *testing.T) {
	h := hold(t)
	b := make([]byte, 3)
	text := func(s string) string {
		copy(b, s)
		return unsafe.String(&b[0], len(b))
	}
	for i, key := range []string{"two", "one", "six", "two", "ten", "one"} {
		got, is := h.d.Put(place(text(key), i))
		want, wantIs := h.p.put(place(key, i))
		text("zzz")
		if got != want || is != wantIs {
			t.Errorf("put %s: %v, %t; want %v, %t", key, got, is, want, wantIs)
		}
		h.same()
	}
	if _, is := h.d.Get(text("six")); !is {
		t.Error("six isn't there")
	}
	l := h.d.From(text("six"), 2)
	if _, is := h.d.Del(text("ten")); !is {
		t.Error("ten isn't there")
	}
	h.p.del("ten")
	text("zzz")
	if !slices.Equal(l, []string{"six", "ten"}) {
		t.Errorf("%q", l)
	}
	h.same()
}

// P3: no answer hangs on another directory's calls.
func TestDirectoriesAreTheirOwn(t *testing.T) {
	all := []*held{hold(t), hold(t), hold(t)}
	c := chance(9)
	for i := range 600 {
		all[c.below(3)].put(place(strconv.Itoa(c.below(40)), i))
		all[c.below(3)].del(strconv.Itoa(c.below(40)))
		for _, h := range all {
			h.same()
		}
	}
}
