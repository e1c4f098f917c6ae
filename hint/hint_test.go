package hint_test

import (
	"cmp"
	"fmt"
	"math"
	"slices"
	"strings"
	"testing"

	"souterrain/api"
	"souterrain/disk"
	"souterrain/hint"
	"souterrain/seg"
)

// chance tells numbers that look like no pattern, but are the same each time.
type chance uint64

func (c *chance) below(n int) int {
	*c = *c*6364136223846793005 + 1442695040888963407
	return int(uint64(*c) >> 33 % uint64(n))
}

// noise is n bytes of all kinds; unlike seeds give unlike bytes.
func noise(n int, seed uint64) []byte {
	c := chance(seed)
	b := make([]byte, n)
	for i := range b {
		b[i] = byte(c.below(256))
	}
	return b
}

// brief tells the beginning of a thing.
func brief(x any) string {
	s := fmt.Sprintf("%v", x)
	return s[:min(len(s), 200)]
}

func root(key string, at int, size int) api.Hint {
	return api.Hint{Kind: api.Root, Key: key, At: at, Size: size}
}

func inline(key string, at int, size int) api.Hint {
	return api.Hint{Kind: api.Inline, Key: key, At: at, Size: size}
}

func tomb(key string, at int, size int) api.Hint {
	return api.Hint{Kind: api.Tomb, Key: key, At: at, Size: size}
}

// many are so many hints, of keys that rise.
func many(n int) []api.Hint {
	l := make([]api.Hint, n)
	for i := range l {
		l[i] = api.Hint{Kind: 2 + i%3, Key: fmt.Sprintf("%07d", i), At: 13 + 20*i, Size: 9 + i%8192}
	}
	return l
}

// allLengths is a hint of a key of each length, each key the beginning of the next one.
func allLengths() []api.Hint {
	var l []api.Hint
	for n := 1; n <= 64; n++ {
		l = append(l, api.Hint{Kind: 2 + n%3, Key: strings.Repeat("k", n), At: n, Size: 9 + n})
	}
	return l
}

// allBytes is a hint of each key of one byte.
func allBytes() []api.Hint {
	var l []api.Hint
	for n := range 256 {
		l = append(l, tomb(string([]byte{byte(n)}), 13+n, 10))
	}
	return l
}

// rights are right hints: none, one, and more; with keys that differ in their last byte or in length alone, of the least and the greatest length; with the least and the greatest places and sizes, and such at which a number's bytes turn over; such that look like something else.
func rights() [][]api.Hint {
	long := strings.Repeat("k", 64)
	return [][]api.Hint{
		nil, {},
		{tomb("a", 13, 10)}, {inline("a", 13, 11)}, {root("a", 13, 40)},
		{root("a", 0, 9)}, {root("a", 1<<30, 8200)}, {tomb("a", 1<<30, 9)}, {inline("a", 0, 8200)}, {inline("a", 1<<30-1, 8199)},
		{tomb("a", 1, 255), tomb("b", 255, 256), tomb("c", 256, 257), tomb("d", 65535, 511), tomb("e", 65536, 512), tomb("f", 1<<24-1, 4096), tomb("g", 1<<24, 8191), tomb("h", 0x01020304, 0x0506)},
		{inline("a", 43, 12), root("b", 55, 60)}, {inline("a", 55, 12), root("b", 43, 60)}, {inline("a", 43, 12), root("b", 43, 12)},
		{tomb("a", 5, 9), tomb("aa", 4, 9), tomb("ab", 3, 9), tomb("abc", 2, 9), tomb("b", 1, 9)},
		{tomb("ka", 1, 9), inline("kb", 2, 9), root("kc", 3, 9)},
		{tomb("\x00", 1, 9), tomb("\x00\x00", 2, 9), tomb("\x00\x01", 3, 9), tomb("\x01", 4, 9), tomb("\x7f", 5, 9), tomb("\x80", 6, 9), tomb("\xff", 7, 9), tomb("\xff\x00", 8, 9), tomb("\xff\xff", 9, 9)},
		{tomb("Z", 1, 9), tomb("a", 2, 9), tomb("z", 3, 9), tomb("\xc3\xa4", 4, 9)},
		{root(long[:63], 1, 9), root(long[:63]+"a", 2, 9), root(long, 3, 9), root(strings.Repeat("\xff", 64), 4, 9)},
		{tomb("\x07\x00\x00\x00\x00\x00\x00\x00\x00\x00\x00\x00\x00", 13, 25)}, {inline(string(written(nil, 0)), 13, 60)}, {inline(string(written([]api.Hint{tomb("a", 1, 9)}, 5)), 13, 60)},
		{inline(string(framed(body(tomb("b", 24, 10)))), 13, 40), tomb("b", 24, 10)},
		allLengths(), allBytes(), many(100), many(255), many(256), many(257),
	}
}

// odd is a right row of hints, with the middle one changed.
func odd(change func(*api.Hint)) []api.Hint {
	l := []api.Hint{tomb("a", 13, 10), inline("m", 24, 30), root("z", 60, 70)}
	change(&l[1])
	return l
}

// wrongs are hints that are not right, each because of one thing.
func wrongs() [][]api.Hint {
	all := [][]api.Hint{
		{{}}, {{}, {}}, {tomb("a", 1, 9), {}}, {{}, tomb("a", 1, 9)},
		{tomb("b", 1, 9), tomb("a", 2, 9)}, {tomb("a", 1, 9), tomb("a", 2, 9)}, {tomb("a", 1, 9), tomb("a", 1, 9)}, {tomb("a", 1, 9), root("a", 2, 9)},
		{tomb("ab", 1, 9), tomb("a", 2, 9)}, {tomb("kb", 1, 9), tomb("ka", 2, 9)}, {tomb("a", 1, 9), tomb("B", 2, 9)}, {tomb("\xff", 1, 9), tomb("\x7f", 2, 9)}, {tomb("\xc3\xa4", 1, 9), tomb("z", 2, 9)},
		{tomb("a", 1, 9), tomb("c", 2, 9), tomb("b", 3, 9)}, {tomb("b", 1, 9), tomb("a", 2, 9), tomb("c", 3, 9)}, {tomb("a", 1, 9), tomb("b", 2, 9), tomb("b", 3, 9), tomb("c", 4, 9)}, {tomb("c", 1, 9), tomb("a", 2, 9), tomb("b", 3, 9)},
		{tomb("10", 1, 9), tomb("9", 2, 9), tomb("11", 3, 9)},
	}
	for _, n := range []int{0, 1, 5, 6, 7, 9, 255, 256 + 2, 256 + 3, 256 + 4, -1, -2, math.MinInt, math.MaxInt, 1<<32 + 3} {
		all = append(all, []api.Hint{{Kind: n, Key: "a", At: 13, Size: 10}}, odd(func(h *api.Hint) { h.Kind = n }))
	}
	for _, n := range []int{-1, 1<<30 + 1, 1 << 31, 1<<32 - 1, 1 << 32, 1<<32 + 24, -1 << 32, math.MinInt, math.MaxInt} {
		all = append(all, []api.Hint{root("a", n, 9)}, odd(func(h *api.Hint) { h.At = n }))
	}
	for _, n := range []int{-1, 0, 1, 7, 8, 8201, 8202, 65535, 65536, 65536 + 9, 1<<32 + 9, -65536 + 9, math.MinInt, math.MaxInt} {
		all = append(all, []api.Hint{root("a", 13, n)}, odd(func(h *api.Hint) { h.Size = n }))
	}
	for _, n := range []int{0, 65, 66, 128, 255, 256, 257, 8192, 65536 + 1} {
		key := strings.Repeat("m", n)
		all = append(all, []api.Hint{tomb(key, 13, 10)}, odd(func(h *api.Hint) { h.Key = key }))
	}
	return append(all, []api.Hint{tomb("", 13, 10), tomb("a", 13, 10)}, []api.Hint{tomb("a", 13, 10), tomb("", 13, 10)})
}

// plainRight is whether hints are right, by the document's words, one by one.
func plainRight(l []api.Hint) bool {
	is := true
	for i, h := range l {
		is = is && (h.Kind == 2 || h.Kind == 3 || h.Kind == 4)
		is = is && len(h.Key) >= 1 && len(h.Key) <= 64
		is = is && h.At >= 0 && h.At <= 1073741824 && h.Size >= 9 && h.Size <= 8200
		is = is && (i == 0 || slices.Compare([]byte(l[i-1].Key), []byte(h.Key)) < 0)
	}
	return is
}

// P11.1, K1: what is right, and what is not.
func TestRight(t *testing.T) {
	for _, l := range rights() {
		if !hint.Right(l) || !plainRight(l) {
			t.Errorf("%s are not right", brief(l))
		}
	}
	for _, l := range wrongs() {
		if hint.Right(l) || plainRight(l) {
			t.Errorf("%s are right", brief(l))
		}
	}
}

// P11.1, K1: all that is one number or one byte away from an edge, in each place of a row.
func TestRightAtEdges(t *testing.T) {
	ordinary := tomb("m", 13, 10)
	var near []api.Hint
	for kind := -3; kind < 300; kind++ {
		near = append(near, api.Hint{Kind: kind, Key: "m", At: 13, Size: 10})
	}
	for n := range 70 {
		near = append(near, tomb(strings.Repeat("m", n), 13, 10))
	}
	for n := -3; n <= 3; n++ {
		near = append(near, tomb("m", n, 10), tomb("m", 1<<30+n, 10), tomb("m", 13, 9+n), tomb("m", 13, 8200+n))
	}
	right := 0
	for _, h := range near {
		is := plainRight([]api.Hint{h})
		if is {
			right++
		}
		for i := range 3 {
			l := []api.Hint{ordinary, ordinary, ordinary}
			l[0].Key, l[2].Key = "l", "n"
			if l[i] = h; i == 0 || i == 2 {
				l[1].Key = "mz"
			}
			if got := hint.Right(l); got != plainRight(l) {
				t.Errorf("%s at %d of a row: %t", brief(h), i, got)
			}
		}
		if hint.Right([]api.Hint{h}) != is {
			t.Errorf("%s alone: %t", brief(h), !is)
		}
	}
	if right != 3+64+4*4 {
		t.Error(right, "were right")
	}
}

// P11.1, K1: each two and each three of keys that stand close together.
func TestRightAsKeysRise(t *testing.T) {
	keys := []string{"", "\x00", "\x00\x00", "a", "a\x00", "aa", "ab", "b", "B", "\x7f", "\x80", "\xff", "\xff\xff", strings.Repeat("a", 64), strings.Repeat("a", 63) + "b", strings.Repeat("a", 65)}
	for _, x := range keys {
		for _, y := range keys {
			for _, z := range keys {
				for _, l := range [][]api.Hint{{tomb(x, 1, 9), root(y, 2, 9)}, {tomb(x, 1, 9), root(y, 2, 9), inline(z, 3, 9)}} {
					if hint.Right(l) != plainRight(l) {
						t.Errorf("%v are right: %t", l, !plainRight(l))
					}
				}
			}
		}
	}
}

// found is that a record of a kind, of a key, stands in a segment.
func found(kind int, key string, at int, size int) api.Found {
	return api.Found{At: at, Size: size, R: api.Rec{Kind: kind, Key: key}}
}

// plainOf is what Of is to be, key by key: the last one that has the least key, then the one of the least key that is greater.
func plainOf(l []api.Found) []api.Hint {
	var all []api.Hint
	for last := ""; ; {
		next, is := api.Found{}, false
		for _, f := range l {
			of := (f.R.Kind == 2 || f.R.Kind == 3 || f.R.Kind == 4) && len(f.R.Key) >= 1 && len(f.R.Key) <= 64
			if of && f.R.Key > last && (!is || f.R.Key <= next.R.Key) {
				next, is = f, true
			}
		}
		if !is {
			return all
		}
		last = next.R.Key
		all = append(all, api.Hint{Kind: next.R.Kind, Key: last, At: next.At, Size: next.Size})
	}
}

func expectOf(t *testing.T, l []api.Found, want []api.Hint) {
	t.Helper()
	if got := hint.Of(l); !slices.Equal(got, want) {
		t.Errorf("%s: %s; want %s", brief(l), brief(got), brief(want))
	}
}

// P11.1, K1, and P11.4: of b, a, and b again, a and the second b; and more such rows.
func TestOfExamples(t *testing.T) {
	for _, x := range []struct {
		found []api.Found
		want  []api.Hint
	}{
		{nil, nil}, {[]api.Found{}, nil}, {make([]api.Found, 3), nil},
		{[]api.Found{found(3, "b", 13, 12), found(3, "a", 25, 14), found(3, "b", 39, 16)}, []api.Hint{inline("a", 25, 14), inline("b", 39, 16)}},
		{[]api.Found{found(2, "a", 13, 40)}, []api.Hint{root("a", 13, 40)}},
		{[]api.Found{found(4, "a", 13, 10), found(1, "", 23, 18), found(2, "a", 41, 40)}, []api.Hint{root("a", 41, 40)}},
		{[]api.Found{found(2, "a", 13, 40), found(3, "a", 53, 20), found(4, "a", 73, 10)}, []api.Hint{tomb("a", 73, 10)}},
		{[]api.Found{found(4, "a", 13, 10), found(4, "b", 23, 10)}, []api.Hint{tomb("a", 13, 10), tomb("b", 23, 10)}},
		{[]api.Found{found(1, "", 13, 18), found(1, "", 31, 18), found(1, "", 49, 4117)}, nil},
		{[]api.Found{found(2, "ab", 13, 40), found(3, "a", 53, 20), found(4, "b", 73, 10), found(3, "\xff", 83, 12), found(3, "B", 95, 12)}, []api.Hint{inline("B", 95, 12), inline("a", 53, 20), root("ab", 13, 40), tomb("b", 73, 10), inline("\xff", 83, 12)}},
	} {
		expectOf(t, x.found, x.want)
		expectOf(t, x.found, plainOf(x.found))
	}
}

// P11.4: the last one is the one that stands last in the row, be its place, or its size, the greatest, the least, or like another one's.
func TestOfGoesByTheRow(t *testing.T) {
	places := []api.Found{found(2, "a", 13, 40), found(3, "a", 53, 20), found(4, "a", 73, 10), found(3, "a", 53, 20), found(4, "a", 1, 8200)}
	for _, x := range places {
		for _, y := range places {
			for _, z := range places {
				expectOf(t, []api.Found{x, y, z}, []api.Hint{{Kind: z.R.Kind, Key: "a", At: z.At, Size: z.Size}})
				expectOf(t, []api.Found{x, found(2, "b", 9, 9), y, z, found(1, "", 1, 18)}, []api.Hint{{Kind: z.R.Kind, Key: "a", At: z.At, Size: z.Size}, root("b", 9, 9)})
			}
		}
	}
}

// P11.1, K1: a kind that is none of the three is not told, nor does it hide another; what else a record has, or a place and a size that can't be, count for nothing.
func TestOfOddOnes(t *testing.T) {
	for kind := -300; kind < 600; kind++ {
		l := []api.Found{found(4, "a", 13, 10), found(kind, "a", 23, 30), found(kind, "b", 53, 30)}
		if kind >= 2 && kind <= 4 {
			expectOf(t, l, []api.Hint{{Kind: kind, Key: "a", At: 23, Size: 30}, {Kind: kind, Key: "b", At: 53, Size: 30}})
		} else {
			expectOf(t, l, []api.Hint{tomb("a", 13, 10)})
		}
	}
	for _, n := range []int{math.MinInt, -1, 0, 8, 8201, 1<<30 + 1, math.MaxInt} {
		expectOf(t, []api.Found{found(4, "a", n, n/2)}, []api.Hint{tomb("a", n, n/2)})
	}
	full := api.Rec{Kind: 3, Key: "a", Id: -7, No: 9, Size: 5, Locs: []api.Loc{{N: 1}}, B: []byte("xy")}
	expectOf(t, []api.Found{{At: 13, Size: 12, R: full}}, []api.Hint{inline("a", 13, 12)})
}

// P11.1, K1: a text that is no key is not told; each one that is, is.
func TestOfKeysOfEachLength(t *testing.T) {
	for n := range 300 {
		key := strings.Repeat("k", n)
		l := []api.Found{found(3, "a", 13, 12), found(2, key, 25, 90), found(4, key, 115, 75)}
		if n >= 1 && n <= 64 {
			expectOf(t, l, []api.Hint{inline("a", 13, 12), tomb(key, 115, 75)})
		} else {
			expectOf(t, l, []api.Hint{inline("a", 13, 12)})
		}
	}
}

// P11.4: rows of all kinds, held against a plain way.
func TestOfManyRows(t *testing.T) {
	c := chance(3)
	keys := []string{"", "a", "aa", "ab", "b", "ba", "c", "\x00", "\xff", strings.Repeat("z", 64), strings.Repeat("z", 65)}
	for range 20000 {
		var l []api.Found
		for range c.below(20) {
			l = append(l, found(c.below(6), keys[c.below(len(keys))], c.below(50), c.below(50)))
		}
		expectOf(t, l, plainOf(l))
	}
}

// P11.4, and rule 5: many keys are told in order, the same each time.
func TestOfManyKeys(t *testing.T) {
	var l []api.Found
	c := chance(8)
	for i := range 30000 {
		l = append(l, found(2+i%3, fmt.Sprint(c.below(9000)), 13+20*i, 9+i%100))
	}
	all := hint.Of(l)
	if len(all) < 8000 || !hint.Right(all) || !slices.IsSortedFunc(all, func(x, y api.Hint) int { return cmp.Compare(x.Key, y.Key) }) {
		t.Error(len(all), "are told, or not in order")
	}
	last := map[string]api.Found{}
	for _, f := range l {
		last[f.R.Key] = f
	}
	for _, h := range all {
		if f := last[h.Key]; h.Kind != f.R.Kind || h.At != f.At || h.Size != f.Size {
			t.Fatalf("%v; want %v", h, f)
		}
	}
	if len(all) != len(last) {
		t.Error(len(all), "are told of", len(last))
	}
	for range 5 {
		expectOf(t, l, all)
	}
}

// P11.4, and P11.2: of a segment on a disk its hints are right, tell where each key's last record stands, and are got of their bytes.
func TestHintsOfASegment(t *testing.T) {
	d := disk.New(api.MaxDisk)
	if err := seg.Make(d, 7); err != api.OK {
		t.Fatal(err)
	}
	c := chance(4)
	last := map[string]api.Hint{}
	for i := range 300 {
		key := fmt.Sprint("k", c.below(40))
		r := []api.Rec{
			{Kind: api.Piece, Id: 5, No: i, B: noise(1+c.below(50), 1)},
			{Kind: api.Root, Key: key, Id: 5, Size: 7, Locs: []api.Loc{{Seg: 7, At: 13, N: 7}}},
			{Kind: api.Inline, Key: key, B: noise(c.below(50), 2)},
			{Kind: api.Tomb, Key: key},
		}[c.below(4)]
		at, size, err := seg.Add(d, 7, r)
		if err != api.OK {
			t.Fatal(err)
		}
		if r.Kind != api.Piece {
			last[key] = api.Hint{Kind: r.Kind, Key: key, At: at, Size: size}
		}
	}
	all, _, err := seg.All(d, 7)
	l := hint.Of(all)
	if err != api.OK || len(l) != len(last) || !hint.Right(l) {
		t.Fatal(len(l), "hints, of", len(last), "keys;", err)
	}
	for _, h := range l {
		if h != last[h.Key] {
			t.Errorf("%v; want %v", h, last[h.Key])
		}
	}
	got(t, "of a segment", hint.Put(l, seg.Size(d, 7)), seg.Size(d, 7), l)
}

// P3: what is handed in is as it was, its spare room too.
func TestListsStay(t *testing.T) {
	room := allLengths()
	places := []api.Found{found(3, "b", 13, 12), found(1, "", 25, 18), found(3, "a", 43, 14), found(3, "b", 57, 16), found(2, "", 73, 18)}
	ahead, foundAhead := slices.Clone(room), fmt.Sprint(places)
	for n := range room {
		hint.Right(room[:n])
		hint.Put(room[:n], n)
		hint.Put(room[:n], -1)
	}
	for n := range places {
		hint.Of(places[:n])
	}
	if !slices.Equal(room, ahead) || fmt.Sprint(places) != foundAhead {
		t.Error("a list has changed")
	}
}

// P3: hints are new memory, and hang on what is handed in alone.
func TestOfIsNew(t *testing.T) {
	l := []api.Found{found(3, "b", 13, 12), found(3, "a", 25, 14), found(3, "b", 39, 16)}
	want := []api.Hint{inline("a", 25, 14), inline("b", 39, 16)}
	one, two := hint.Of(l), hint.Of(l)
	clear(one[:cap(one)])
	hint.Of([]api.Found{found(4, "a", 1, 9), found(4, "c", 2, 9)})
	expectOf(t, l, want)
	clear(l)
	if !slices.Equal(two, want) {
		t.Error(two)
	}
}
