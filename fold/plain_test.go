package fold_test

import (
	"bytes"
	"fmt"
	"maps"
	"slices"
	"strings"
	"testing"

	"souterrain/api"
	"souterrain/fold"
)

// chance tells numbers that look like no pattern, but are the same each time.
type chance uint64

func (c *chance) below(n int) int {
	*c = *c*6364136223846793005 + 1442695040888963407
	return int(uint64(*c) >> 33 % uint64(n))
}

// hintOf is one of a key, with a number in all that it tells, so that no two have all alike.
func hintOf(key string, n int) api.Hint {
	return api.Hint{Kind: 2 + n%3, Key: key, At: 13 + n, Size: 9 + n}
}

// hints are of keys, in this order, with numbers from one on.
func hints(from int, keys ...string) []api.Hint {
	var l []api.Hint
	for i, key := range keys {
		l = append(l, hintOf(key, from+i))
	}
	return l
}

// numbers are segments' numbers for so many lists, from one on.
func numbers(from int, many int) []int {
	l := make([]int, many)
	for i := range l {
		l[i] = from + i
	}
	return l
}

// oddKeys are keys of no bytes, of each byte, of bytes that are no text's, that begin alike, or end alike, and long ones.
func oddKeys() []string {
	l := []string{"", "\x00\x00", "\x00\x00\x00", "a\x00", "a\x00\x00", "\x00a", "aa", "ab", "ba", "aaa", "aab", "10", "9", "100", "\xff\xff", "\xff\x00", "\x00\xff", "\x7f\x80", "\x80\x7f", "\xc3\xa4", "\xe2\x82\xac", "\xed\xa0\x80", "\xef\xbf\xbd", "\xf0\x9f\x98\x80", "\xf4\x90\x80\x80", "a\xff", "a\x80", "z\xff"}
	for b := range 256 {
		l = append(l, string([]byte{byte(b)}))
	}
	for n := 62; n < 67; n++ {
		l = append(l, strings.Repeat("k", n), strings.Repeat("\x00", n), strings.Repeat("\xff", n), strings.Repeat("k", n)+"\x80")
	}
	long := strings.Repeat("long ", 2000)
	return append(l, long, long+"\x00", long[1:], long[:len(long)-1], long[:len(long)-1]+"!")
}

// inOrder are keys from the least on, each once.
func inOrder(keys []string) []string {
	l := slices.Clone(keys)
	slices.SortFunc(l, func(x, y string) int { return bytes.Compare([]byte(x), []byte(y)) })
	return slices.Compact(l)
}

// plainFold is what Fold is to answer, by the document's words: each key's hints are put over the ones of the lists ahead.
func plainFold(segs []int, lists [][]api.Hint) ([]api.Place, bool) {
	if len(segs) != len(lists) {
		return nil, false
	}
	places := map[string]api.Place{}
	for i, l := range lists {
		for j, h := range l {
			if j > 0 && bytes.Compare([]byte(l[j-1].Key), []byte(h.Key)) >= 0 {
				return nil, false
			}
			places[h.Key] = api.Place{Seg: segs[i], Hint: h}
		}
	}
	var all []api.Place
	for _, key := range inOrder(slices.Collect(maps.Keys(places))) {
		all = append(all, places[key])
	}
	return all, true
}

// folded expects Fold to answer as it is to.
func folded(t *testing.T, segs []int, lists [][]api.Hint) []api.Place {
	t.Helper()
	got, is := fold.Fold(segs, lists)
	want, wantIs := plainFold(segs, lists)
	if !slices.Equal(got, want) || is != wantIs {
		t.Fatalf("%s, %s: %s, %t; want %s, %t", brief(segs), brief(lists), brief(got), is, brief(want), wantIs)
	}
	return got
}

// right expects it to be true, too, and none expects none, and false.
func right(t *testing.T, segs []int, lists [][]api.Hint) []api.Place {
	t.Helper()
	got, is := fold.Fold(segs, lists)
	if !is {
		t.Fatalf("%s, %s: false", brief(segs), brief(lists))
	}
	folded(t, segs, lists)
	return got
}

func none(t *testing.T, segs []int, lists [][]api.Hint) {
	t.Helper()
	if got, is := fold.Fold(segs, lists); is || len(got) != 0 {
		t.Fatalf("%s, %s: %s, %t; want none, false", brief(segs), brief(lists), brief(got), is)
	}
	folded(t, segs, lists)
}

// parted folds lists in two parts, the second one from a place on, and both then, and expects that to be what all at once are.
func parted(t *testing.T, segs []int, lists [][]api.Hint, at int) {
	t.Helper()
	parts := [][]api.Place{right(t, segs[:at], lists[:at]), right(t, segs[at:], lists[at:])}
	var both [][]api.Hint
	for _, part := range parts {
		var l []api.Hint
		for _, p := range part {
			l = append(l, p.Hint)
		}
		both = append(both, l)
	}
	var got []api.Place
	for _, p := range right(t, []int{0, 1}, both) {
		part := parts[p.Seg]
		i := slices.IndexFunc(part, func(x api.Place) bool { return x.Hint == p.Hint })
		if i < 0 {
			t.Fatalf("%s, of the part %d, is not there", brief(p), p.Seg)
		}
		got = append(got, part[i])
	}
	if want := right(t, segs, lists); !slices.Equal(got, want) {
		t.Fatalf("%s, %s, parted at %d: %s; want %s", brief(segs), brief(lists), at, brief(got), brief(want))
	}
}

// some are so many lists of such of these keys, which rise, as chance has it: one of so many.
func some(c *chance, many int, keys []string, of int) [][]api.Hint {
	lists := make([][]api.Hint, many)
	n := 0
	for i := range lists {
		for _, key := range keys {
			if c.below(of) == 0 {
				lists[i] = append(lists[i], hintOf(key, n))
				n++
			}
		}
	}
	return lists
}

// cloned is lists in new memory.
func cloned(lists [][]api.Hint) [][]api.Hint {
	l := slices.Clone(lists)
	for i := range l {
		l[i] = slices.Clone(l[i])
	}
	return l
}

// brief tells the beginning of a thing.
func brief(x any) string {
	s := fmt.Sprintf("%+v", x)
	return s[:min(len(s), 300)]
}
