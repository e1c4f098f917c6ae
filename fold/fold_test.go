package fold_test

import (
	"fmt"
	"math"
	"slices"
	"strconv"
	"strings"
	"testing"

	"souterrain/api"
	"souterrain/fold"
	"souterrain/hint"
)

// P14.1, N1, and P14.2: what was written out by hand, the document's example ahead of all: lists of keys, and which list's hint each key has. A point is the key of no bytes.
func TestExamples(t *testing.T) {
	for _, x := range []struct{ lists, want string }{
		{"a b/b", "a0 b1"},
		{"", ""},
		{"/", ""},
		{"//", ""},
		{"a", "a0"},
		{".", ".0"},
		{". a b", ".0 a0 b0"},
		{"a/a", "a1"},
		{"a//a", "a2"},
		{"a/a/a", "a2"},
		{"a/a/", "a1"},
		{"/a/", "a1"},
		{"//a", "a2"},
		{"a//", "a0"},
		{"a/b", "a0 b1"},
		{"b/a", "a1 b0"},
		{"c/a/b", "a1 b2 c0"},
		{"b/b c", "b1 c1"},
		{"b c/b", "b1 c0"},
		{"a b c/b", "a0 b1 c0"},
		{"b/a b c", "a1 b1 c1"},
		{"a c e/b d f", "a0 b1 c0 d1 e0 f1"},
		{"b d f/a c e", "a1 b0 c1 d0 e1 f0"},
		{"a b c/d e f", "a0 b0 c0 d1 e1 f1"},
		{"d e f/a b c", "a1 b1 c1 d0 e0 f0"},
		{"a b/a c/b c", "a1 b2 c2"},
		{"b c/a c/a b", "a2 b2 c1"},
		{"a b c/a b/a", "a2 b1 c0"},
		{"a/a b/a b c", "a2 b2 c2"},
		{"./a/.", ".2 a1"},
		{"a/.", ".1 a0"},
		{". a/.", ".1 a0"},
		{"a ab abc/ab", "a0 ab1 abc0"},
		{"abc/ab/a", "a2 ab1 abc0"},
		{"1 10 9/10 2", "10 101 21 90"},
		{"A B a b/Z", "A0 B0 Z1 a0 b0"},
		{"z/\xc3\xa4/\x7f", "z0 \x7f2 \xc3\xa41"},
		{"\xff/\x80/\xff\x00", "\x801 \xff0 \xff\x002"},
		{"a a", "false"},
		{"b a", "false"},
		{". .", "false"},
		{"a .", "false"},
		{"ab a", "false"},
		{"a c b", "false"},
		{"b a c", "false"},
		{"a b b", "false"},
		{"a a b", "false"},
		{"9 10", "false"},
		{"a B", "false"},
		{"\x80 a", "false"},
		{"\xc3\xa4 z", "false"},
		{"/a a", "false"},
		{"a a/", "false"},
		{"a b/b a", "false"},
		{"b a/a b", "false"},
		{"a/b/c/b a", "false"},
	} {
		var lists [][]api.Hint
		if x.lists != "" {
			for i, l := range strings.Split(x.lists, "/") {
				lists = append(lists, hints(100*i, strings.Split(strings.ReplaceAll(l, ".", ""), " ")...))
				if l == "" {
					lists[i] = nil
				}
			}
		}
		all, is := fold.Fold(numbers(0, len(lists)), lists)
		var told []string
		for _, p := range all {
			key := p.Hint.Key
			if key == "" {
				key = "."
			}
			told = append(told, key+strconv.Itoa(p.Seg))
			if !slices.Contains(lists[p.Seg], p.Hint) {
				t.Errorf("%q: %v is no hint of the list", x.lists, p)
			}
		}
		if !is {
			told = append(told, "false")
		}
		if got := strings.Join(told, " "); got != x.want {
			t.Errorf("%q: %q; want %q", x.lists, got, x.want)
		}
	}
}

// P14.1, N1: no lists, and lists of no hints alone, are folded to none, and true.
func TestOfNoHints(t *testing.T) {
	right(t, nil, nil)
	right(t, []int{}, nil)
	right(t, nil, [][]api.Hint{})
	right(t, []int{}, [][]api.Hint{})
	for n := range 30 {
		lists := make([][]api.Hint, n)
		for i := range lists {
			if i%2 == 0 {
				lists[i] = []api.Hint{}
			}
		}
		if l := right(t, numbers(1, n), lists); len(l) != 0 {
			t.Error(n, l)
		}
	}
}

// P14.1, N1, and P14.2: each row of up to three lists of few keys, and of more lists of fewer keys; P14.3: parted at each place.
func TestEachRow(t *testing.T) {
	for _, x := range []struct {
		many int
		keys []string
	}{{1, []string{"", "a", "aa", "b", "\x80", "\xff"}}, {2, []string{"", "a", "aa", "b", "\xff"}}, {3, []string{"", "a", "b", "\xff"}}, {4, []string{"a", "ab", "b"}}, {6, []string{"a", "b"}}, {10, []string{"a"}}} {
		for row := range 1 << (x.many * len(x.keys)) {
			lists := make([][]api.Hint, x.many)
			for bit := range x.many * len(x.keys) {
				if row>>bit&1 == 1 {
					i := bit / len(x.keys)
					lists[i] = append(lists[i], hintOf(x.keys[bit%len(x.keys)], bit))
				}
			}
			segs := numbers(7, x.many)
			right(t, segs, lists)
			for at := range x.many + 1 {
				parted(t, segs, lists, at)
			}
		}
	}
}

// P14.2: a key that all lists have is the last one's, be there lists of no hints ahead of it, behind it, and among others; and so is one that all have among others.
func TestOneKeyInEveryList(t *testing.T) {
	for _, n := range []int{1, 2, 3, 4, 5, 7, 8, 9, 15, 16, 17, 31, 32, 33, 100, 1000} {
		for _, key := range []string{"", "k", "\xff"} {
			one, gaps, among := make([][]api.Hint, n), make([][]api.Hint, 3*n), make([][]api.Hint, n)
			for i := range n {
				one[i] = hints(i, key)
				gaps[3*i+1] = one[i]
				among[i] = hints(3*i, "", "a"+key, "b"+strconv.Itoa(i%7), "c\xff"+strconv.Itoa(i))
			}
			want := []api.Place{{Seg: n, Hint: hintOf(key, n-1)}}
			if l := right(t, numbers(1, n), one); !slices.Equal(l, want) {
				t.Errorf("%d lists: %s", n, brief(l))
			}
			want[0].Seg = 3*n - 1
			if l := right(t, numbers(1, 3*n), gaps); !slices.Equal(l, want) {
				t.Errorf("%d lists: %s", n, brief(l))
			}
			if l := right(t, numbers(1, n), among); l[0].Seg != n || l[1].Seg != n || len(l) != 2+min(n, 7)+n {
				t.Errorf("%d lists: %s", n, brief(l))
			}
		}
	}
}

// P14.1, N1: of each two odd keys: in one list, in order or not, or alike; in two lists, either one first.
func TestTwoOddKeys(t *testing.T) {
	all := inOrder(oddKeys())
	for i, x := range all {
		none(t, []int{5}, [][]api.Hint{hints(1, x, x)})
		right(t, []int{5, 6}, [][]api.Hint{hints(1, x), hints(2, x)})
		for _, y := range all[i+1:] {
			want := []api.Place{{Seg: 5, Hint: hintOf(x, 1)}, {Seg: 5, Hint: hintOf(y, 2)}}
			if l, is := fold.Fold([]int{5}, [][]api.Hint{hints(1, x, y)}); !is || !slices.Equal(l, want) {
				t.Fatalf("%.20q, %.20q: %s, %t", x, y, brief(l), is)
			}
			if l, is := fold.Fold([]int{5}, [][]api.Hint{hints(1, y, x)}); is || len(l) != 0 {
				t.Fatalf("%.20q, %.20q: %s, %t", y, x, brief(l), is)
			}
			want[1].Seg = 6
			if l, is := fold.Fold([]int{5, 6}, [][]api.Hint{hints(1, x), hints(2, y)}); !is || !slices.Equal(l, want) {
				t.Fatalf("%.20q; %.20q: %s, %t", x, y, brief(l), is)
			}
			want[0].Seg, want[1].Seg = 6, 5
			if l, is := fold.Fold([]int{5, 6}, [][]api.Hint{hints(2, y), hints(1, x)}); !is || !slices.Equal(l, want) {
				t.Fatalf("%.20q; %.20q: %s, %t", y, x, brief(l), is)
			}
		}
	}
}

// P14.1 to P14.3: all odd keys in one list, dealt out to several, and in all of them.
func TestAllOddKeys(t *testing.T) {
	all := inOrder(oddKeys())
	for n := 1; n < 12; n++ {
		dealt, every := make([][]api.Hint, n), make([][]api.Hint, n)
		for i, key := range all {
			dealt[i*5%n] = append(dealt[i*5%n], hintOf(key, i))
		}
		for i := range every {
			every[i] = hints(i*len(all), all...)
		}
		for _, lists := range [][][]api.Hint{dealt, every} {
			if l := right(t, numbers(3, n), lists); len(l) != len(all) {
				t.Error(len(l), "keys of", len(all))
			}
			parted(t, numbers(3, n), lists, n/2)
		}
	}
}

// P14.1, N1: numbers that are alike, that fall, and that can't be a segment's, are told as they stand at the list's place.
func TestAnyNumbers(t *testing.T) {
	odd := []int{0, 1, -1, 7, 7, 3, 3, 99999999, 100000000, 1 << 31, 1<<32 + 7, -1 << 40, math.MaxInt, math.MinInt, 0, 7}
	c := chance(4)
	for range 300 {
		n := c.below(len(odd)) + 1
		segs, alike, falls := make([]int, n), make([]int, n), make([]int, n)
		for i := range n {
			segs[i] = odd[c.below(len(odd))]
			alike[i] = segs[0]
			falls[i] = n - i
		}
		lists := some(&c, n, []string{"", "a", "b", "ba", "c", "\xff"}, 3)
		for _, segs := range [][]int{segs, alike, falls} {
			right(t, segs, lists)
			for at := range n + 1 {
				parted(t, segs, lists, at)
			}
		}
	}
}

// P14.1, N1, and P1: a hint is told as it was handed in, be it one that may be or not.
func TestAnyHints(t *testing.T) {
	odd := []int{0, 1, 2, 3, 4, 5, -1, 9, 8200, 1 << 30, 1<<32 + 4, math.MaxInt, math.MinInt}
	for _, n := range odd {
		for field := range 3 {
			lists := [][]api.Hint{hints(1, "", "a", "b"), hints(4, "a", "c")}
			for _, l := range lists {
				for i := range l {
					*[]*int{&l[i].Kind, &l[i].At, &l[i].Size}[field] = n
				}
			}
			right(t, []int{1, 2}, lists)
		}
		right(t, []int{n}, [][]api.Hint{{{Kind: n, At: n, Size: n}}})
	}
	right(t, []int{1}, [][]api.Hint{{{}}})
	right(t, []int{1, 2}, [][]api.Hint{{{}}, {{}}})
	none(t, []int{1}, [][]api.Hint{make([]api.Hint, 2)})
}

// P14.1, N1, and P14.2: a list that is there twice, or more often, is told with the number at its last place; so is one that is a part of another.
func TestListsThatAreThereTwice(t *testing.T) {
	all := hints(0, "", "a", "ab", "b", "c", "\x80", "\xff")
	for n := 2; n < 20; n++ {
		lists := make([][]api.Hint, n)
		for i := range lists {
			lists[i] = all
		}
		for _, p := range right(t, numbers(1, n), lists) {
			if p.Seg != n {
				t.Errorf("%d times: %v", n, p)
			}
		}
		lists[n/2] = hints(50, "a", "bb")
		right(t, numbers(1, n), lists)
		for i := range lists {
			lists[i] = all[i%len(all) : len(all)-i%2]
			if i%len(all) == len(all)-1 {
				lists[i] = all[:i%3]
			}
		}
		right(t, numbers(1, n), lists)
		for at := range n + 1 {
			parted(t, numbers(1, n), lists, at)
		}
	}
}

// P14.1, N1, and P2: fewer, and more, numbers than lists: none, and false, be the lists right or not, or of no hints.
func TestUnlikeManys(t *testing.T) {
	for n := range 12 {
		for m := range 12 {
			lists, empty := make([][]api.Hint, m), make([][]api.Hint, m)
			for i := range lists {
				lists[i] = hints(3*i, "a", "b"+strconv.Itoa(i), "c")
			}
			if n == m {
				right(t, numbers(1, n), lists)
				continue
			}
			none(t, numbers(1, n), lists)
			none(t, numbers(1, n), empty)
			if m > 0 {
				lists[m-1] = hints(1, "b", "a")
				none(t, numbers(1, n), lists)
			}
		}
	}
	none(t, nil, [][]api.Hint{nil})
	none(t, []int{0}, nil)
	none(t, make([]int, 5, 9), make([][]api.Hint, 4, 9))
	none(t, make([]int, 4, 9), make([][]api.Hint, 5, 9))
}

// P14.1, N1, and P2: in one list alone, whichever it is, a key that is told twice, or is less than the one ahead of it, wherever in the list: none, and false.
func TestKeysThatDoNotRise(t *testing.T) {
	keys := []string{"", "a", "ab", "b", "c\x00", "d", "\x80", "\xff"}
	for many := 1; many < 5; many++ {
		for n := 2; n <= len(keys); n++ {
			for which := range many {
				lists := make([][]api.Hint, many)
				for i := range lists {
					lists[i] = hints(10*i, keys[:n]...)
					if i%2 == 1 && i != which {
						lists[i] = lists[i][:i%n]
					}
				}
				segs := numbers(1, many)
				right(t, segs, lists)
				l := lists[which]
				for i := range n - 1 {
					l[i].Key, l[i+1].Key = l[i+1].Key, l[i].Key
					none(t, segs, lists)
					l[i].Key = l[i+1].Key
					none(t, segs, lists)
					l[i].Key, l[i+1].Key = keys[i+1], keys[i+1]
					none(t, segs, lists)
					l[i].Key = keys[i]
					right(t, segs, lists)
				}
				slices.Reverse(l)
				none(t, segs, lists)
			}
		}
	}
}

// P14.1, N1: one wrong hint in a long list, among many lists, that are right: none, and false.
func TestOneWrongHintOfMany(t *testing.T) {
	c := chance(6)
	var keys []string
	for i := range 300 {
		keys = append(keys, fmt.Sprintf("%03d", i))
	}
	lists := some(&c, 40, keys, 2)
	segs := numbers(1, len(lists))
	right(t, segs, lists)
	for i, l := range lists {
		for _, j := range []int{1, 2, len(l) / 2, len(l) - 2, len(l) - 1} {
			was := l[j].Key
			for _, key := range []string{l[j-1].Key, "", l[j-1].Key[:2], "000"} {
				l[j].Key = key
				none(t, segs, lists)
			}
			l[j].Key = was
		}
		if i%10 == 0 {
			right(t, segs, lists)
		}
	}
}

// P14.1 to P14.3: any lists, right and wrong ones, a great many of them, parted anywhere.
func TestAnyLists(t *testing.T) {
	c := chance(14)
	odd := inOrder(oddKeys())
	for round := range 4000 {
		keys := []string{"", "a", "aa", "ab", "b", "\x7f", "\x80", "\xff"}[:1+round%8]
		if round%10 == 0 {
			keys = odd
		}
		n := c.below(12)
		lists := some(&c, n, keys, 1+c.below(6))
		segs := make([]int, n)
		for i := range segs {
			segs[i] = c.below(9)
		}
		right(t, segs, lists)
		parted(t, segs, lists, c.below(n+1))
		for _, l := range lists {
			if len(l) > 1 && c.below(20) == 0 {
				i, j := c.below(len(l)), c.below(len(l))
				l[i], l[j] = l[j], l[i]
			}
		}
		folded(t, segs, lists)
	}
}

// P14.1 to P14.3, and rule 5: many hints, of one list, of few, and of as many as there may be segments; the same each time.
func TestManyHints(t *testing.T) {
	c := chance(9)
	var keys []string
	for i := range 2000 {
		keys = append(keys, strconv.Itoa(i*7919))
	}
	keys = inOrder(keys)
	for _, x := range []struct{ many, of int }{{1, 1}, {2, 1}, {3, 2}, {100, 10}, {1000, 20}, {1000, 3000}} {
		lists := some(&c, x.many, keys, x.of)
		segs := numbers(1, x.many)
		l := right(t, segs, lists)
		for range 3 {
			if again, is := fold.Fold(segs, lists); !is || !slices.Equal(again, l) {
				t.Error("another answer")
			}
		}
		for _, at := range []int{0, 1, x.many / 2, x.many} {
			parted(t, segs, lists, at)
		}
	}
}

// P14.3: lists folded in more parts than two, one behind the other, each time with what was folded up to there.
func TestManyParts(t *testing.T) {
	c := chance(3)
	for n := range 30 {
		lists := some(&c, n, []string{"", "a", "b", "ba", "c", "d\xff", "\xff"}, 4)
		// Of each key the list, too, is told, as which one it was folded.
		var upTo []api.Hint
		last := map[string]int{}
		for i, l := range lists {
			var next []api.Hint
			for _, p := range right(t, []int{0, 1}, [][]api.Hint{upTo, l}) {
				next = append(next, p.Hint)
				if p.Seg == 1 {
					last[p.Hint.Key] = i
				}
			}
			upTo = next
		}
		var got []api.Place
		for _, h := range upTo {
			got = append(got, api.Place{Seg: last[h.Key], Hint: h})
		}
		if want := right(t, numbers(0, n), lists); !slices.Equal(got, want) {
			t.Errorf("%d lists: %s; want %s", n, brief(got), brief(want))
		}
	}
}

// P14.2: of records of many segments, hints of each, folded, are where each key's last record stands; Live are those that are no Tombs.
func TestHintsOfSegments(t *testing.T) {
	c := chance(8)
	for n := range 40 {
		lists := make([][]api.Hint, n)
		last := map[string]api.Place{}
		for i := range lists {
			var all []api.Found
			for at := range c.below(30) {
				f := api.Found{At: 13 + 20*at, Size: 20, R: api.Rec{Kind: 2 + c.below(3), Key: "k" + strconv.Itoa(c.below(25))}}
				all = append(all, f)
				last[f.R.Key] = api.Place{Seg: 3 * i, Hint: api.Hint{Kind: f.R.Kind, Key: f.R.Key, At: f.At, Size: f.Size}}
			}
			lists[i] = hint.Of(all)
		}
		segs := numbers(0, n)
		for i := range segs {
			segs[i] *= 3
		}
		l := right(t, segs, lists)
		live := fold.Live(l)
		for _, p := range l {
			if p != last[p.Hint.Key] || slices.Contains(live, p) != (p.Hint.Kind != 4) {
				t.Errorf("%v; want %v", p, last[p.Hint.Key])
			}
		}
		if len(l) != len(last) {
			t.Error(len(l), "keys of", len(last))
		}
	}
}

// P3: what is handed in is as it was, the spare room too.
func TestListsStay(t *testing.T) {
	c := chance(2)
	for n := range 20 {
		lists := some(&c, n, []string{"", "a", "b", "ba", "c", "\xff"}, 2)
		segs := numbers(1, n+1)
		lists = append(lists, hints(70, "x", "y", "z"))
		ahead, segsAhead := cloned(lists), slices.Clone(segs)
		for m := range n + 1 {
			halves := slices.Clone(lists[:m])
			for i, l := range halves {
				halves[i] = l[:len(l)/2]
			}
			fold.Fold(segs[:m], halves)
			fold.Fold(segs[:m], lists[:m])
			fold.Fold(segs[:m+1], lists[:m])
			for i, l := range halves {
				if len(l) != len(lists[i])/2 {
					t.Error("a list has changed")
				}
			}
		}
		for i := range lists {
			if !slices.Equal(lists[i], ahead[i]) {
				t.Error("a list has changed")
			}
		}
		if !slices.Equal(segs, segsAhead) {
			t.Error("numbers have changed")
		}
	}
}

// P3: what came out is new memory, its spare room too, and stays as it was, whatever becomes of what was handed in, and of what else came out.
func TestFoldIsNew(t *testing.T) {
	c := chance(5)
	for n := range 30 {
		lists := some(&c, n, []string{"", "a", "b", "ba", "c", "\xff"}, 2)
		segs := numbers(1, n)
		ahead, segsAhead := cloned(lists), slices.Clone(segs)
		one, two := right(t, segs, lists), right(t, segs, lists)
		want := slices.Clone(two)
		clear(one[:cap(one)])
		for i := range lists {
			if !slices.Equal(lists[i], ahead[i]) {
				t.Error("a list has changed")
			}
			clear(lists[i][:cap(lists[i])])
			lists[i] = nil
		}
		clear(segs)
		right(t, []int{5}, [][]api.Hint{hints(90, "a", "zz")})
		if !slices.Equal(two, want) {
			t.Error(two, "were", want)
		}
		right(t, segsAhead, ahead)
	}
}

// plainLive is what Live is to answer: of a copy the Tombs are cut out.
func plainLive(l []api.Place) []api.Place {
	return slices.DeleteFunc(slices.Clone(l), func(p api.Place) bool { return p.Hint.Kind == 4 })
}

// places are of these kinds, with keys that do not rise, and numbers that tell them apart.
func places(kinds ...int) []api.Place {
	var l []api.Place
	for i, kind := range kinds {
		l = append(l, api.Place{Seg: 50 - i, Hint: api.Hint{Kind: kind, Key: string([]byte{byte(200 - i*7)}), At: i, Size: 3 * i}})
	}
	return l
}

// P14.1, N2: of none, of Tombs alone, of none that is one, of both.
func TestLive(t *testing.T) {
	all := places(4, 3, 2, 4, 4, 3, 4)
	if l := fold.Live(all); !slices.Equal(l, []api.Place{all[1], all[2], all[5]}) {
		t.Error(l)
	}
	for _, l := range [][]api.Place{nil, {}, places(4), places(4, 4), places(4, 4, 4, 4, 4)} {
		if live := fold.Live(l); len(live) != 0 {
			t.Error(l, live)
		}
	}
	for _, l := range [][]api.Place{places(2), places(3), places(2, 3), places(3, 2, 3, 3, 2), places(2, 2)} {
		if live := fold.Live(l); !slices.Equal(live, l) {
			t.Error(l, live)
		}
	}
}

// P14.1, N2: each row of kinds, up to some; those that are told stand in the order in which they stood, each as often.
func TestLiveOfEachRow(t *testing.T) {
	for n := range 7 {
		for row := range 1 << (2 * n) {
			var kinds []int
			for i := range n {
				kinds = append(kinds, 1+row>>(2*i)&3)
			}
			l := places(kinds...)
			for _, l := range [][]api.Place{l, slices.Concat(l, l)} {
				if live := fold.Live(l); !slices.Equal(live, plainLive(l)) {
					t.Fatal(l, live)
				}
			}
		}
	}
}

// P14.1, N2, and P1: no kind but that of a Tomb is one, be it a record's or not; of a place nothing else counts.
func TestLiveOfAnyKinds(t *testing.T) {
	kinds := []int{1<<8 + 4, 1<<16 + 4, 1<<32 + 4, -4, -1 << 32, -1<<32 + 4, math.MaxInt, math.MinInt, math.MinInt + 4}
	for kind := -300; kind < 600; kind++ {
		kinds = append(kinds, kind)
	}
	for _, kind := range kinds {
		for _, l := range [][]api.Place{places(kind), places(4, kind), places(kind, 4), places(3, kind, 2), places(kind, kind)} {
			if live := fold.Live(l); !slices.Equal(live, plainLive(l)) {
				t.Errorf("%v: %v", l, live)
			}
		}
		for _, l := range [][]api.Place{{{Seg: 4, Hint: api.Hint{Kind: kind, Key: "4", At: 4, Size: 4}}}, {{Hint: api.Hint{Kind: kind}}}} {
			if live := fold.Live(l); !slices.Equal(live, plainLive(l)) {
				t.Errorf("%v: %v", l, live)
			}
		}
	}
}

// P14.1, N2, and P3: what is handed in is as it was; what came out is new memory, its spare room too, and stays as it was.
func TestLiveIsNew(t *testing.T) {
	c := chance(7)
	for n := range 100 {
		var kinds []int
		for range n {
			kinds = append(kinds, 2+c.below(1+n%3))
		}
		l := places(append(kinds, 3, 4, 3)...)
		ahead := slices.Clone(l)
		want := plainLive(l[:n])
		one, two := fold.Live(l[:n]), fold.Live(l[:n])
		clear(one[:cap(one)])
		if !slices.Equal(l, ahead) {
			t.Fatalf("%d places have changed", n)
		}
		clear(l)
		if !slices.Equal(two, want) {
			t.Fatal(two, "were", want)
		}
	}
}
