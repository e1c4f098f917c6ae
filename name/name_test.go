package name_test

import (
	"fmt"
	"math"
	"regexp"
	"slices"
	"strconv"
	"strings"
	"testing"

	"souterrain/api"
	"souterrain/name"
)

// chance tells numbers that look like no pattern, but are the same each time.
type chance uint64

func (c *chance) below(n int) int {
	*c = *c*6364136223846793005 + 1442695040888963407
	return int(uint64(*c) >> 33 % uint64(n))
}

// shortly is the beginning of a text, as it may be long.
func shortly(s string) string { return strconv.Quote(s[:min(len(s), 40)]) }

// written is the name that the document has a kind and a number have.
func written(kind, n int) string {
	switch {
	case kind == 1 && 0 <= n && n <= 99999999:
		return fmt.Sprintf("s%08d", n)
	case kind == 2 && 0 <= n && n <= 99999999:
		return fmt.Sprintf("h%08d", n)
	case kind == 3 && n == 0:
		return "m"
	case kind == 4 && n == 0:
		return "t"
	}
	return ""
}

// numbered is what names with a number look like.
var numbered = regexp.MustCompile(`\A[sh][0-9]{8}\z`)

// read is the kind and the number that the document has a name tell.
func read(s string) (int, int, bool) {
	switch {
	case s == "m":
		return 3, 0, true
	case s == "t":
		return 4, 0, true
	case !numbered.MatchString(s):
		return 0, 0, false
	}
	n, err := strconv.Atoi(strings.TrimLeft(s[1:len(s)-1], "0") + s[len(s)-1:])
	if err != nil {
		panic(err)
	}
	if s[0] == 's' {
		return 1, n, true
	}
	return 2, n, true
}

// numbers are numbers that rise: all short ones, those on both sides of each digit's turning over, each digit at each place, and ones in between.
func numbers() []int {
	var all []int
	for n := range 20001 {
		all = append(all, n, 99999999-n)
	}
	for ten := 10; ten <= 10000000; ten *= 10 {
		for digit := 1; digit <= 9; digit++ {
			all = append(all, digit*ten-1, digit*ten, digit*ten+1)
		}
	}
	for n := 12345; n <= 99999999; n += 4999 {
		all = append(all, n)
	}
	all = append(all, 42, 12345678, 98765432, 1<<24, 1<<16, 1<<26-1)
	slices.Sort(all)
	return slices.Compact(all)
}

// wrongNumbers are numbers that no name has, though what is left of some, when they are cut to fewer bits or digits, is one that has.
func wrongNumbers() []int {
	return []int{-1, -2, -42, -99999999, -100000000, 100000000, 100000001, 100000042, 123456789, 999999999, 1 << 27, 1 << 31, 1<<32 + 42, -1<<32 + 42, math.MaxInt32, math.MinInt32, math.MaxInt, math.MaxInt - 1, math.MinInt, math.MinInt + 1}
}

// wrongKinds are kinds that are none, though the lowest bits of some are one's.
func wrongKinds() []int {
	return []int{0, -1, -2, -3, -4, -5, 5, 6, 7, 's', 'h', 'm', 't', 255, 256, 257, 258, 259, 260, 1<<16 + 1, 1<<32 + 1, 1<<32 + 3, -1<<32 + 2, math.MaxInt, math.MaxInt - 1, math.MinInt, math.MinInt + 1, math.MinInt + 4}
}

// texts are what may be handed in as names: right ones, ones that are nearly so, and ones that aren't like any.
func texts() []string {
	all := []string{"", "s", "h", "m", "t", "mm", "tt", "mt", "ms", "m0", "t0", "m00000000", "t00000000", "M", "T", "S00000042", "H00000042", " m", "m ", "m\n", "m\x00", "s0", "s1", "s42"}
	all = append(all, "00000042", "000000042", "42", "x00000042", "a00000042", "ss0000042", "sh0000042", "hs0000042", "r00000042", "u00000042", "g00000042", "i00000042")
	all = append(all, "s+0000042", "s-0000042", "s-0000000", "s 0000042", "s0000042 ", "s0000_042", "s0000.042", "s1e000000", "s0x00002a", "s0000002a", "s00000042\n", "\ns00000042", "s00000042\x00")
	all = append(all, "s\u0660\u0660\u0660\u0660", "s000000\u0662", "s00000\uff11", "s0000\U0001d7d8", "\u017f0000042", "\u017f00000042", "s0000000\xb0", "s0000000\xff", "s000000\xc0\xb0", "\xf300000042", "\x8000000042", "s00000\xe0\x80\xb0")
	// Letters of several bytes, whose numbers end as a digit's does.
	all = append(all, "s000000\u0132", "s\u0132000000", "s\u0130\u0131\u0138\u0139", "h00000\u2030", "h0000\U0001f430", "h\U0001f430\U0001f431")
	for n := range 40 {
		all = append(all, "s"+strings.Repeat("0", n), "h"+strings.Repeat("9", n), "m"+strings.Repeat("0", n), strings.Repeat("7", n), strings.Repeat("s", n), strings.Repeat("\xff", n), strings.Repeat("\x00", n))
	}
	for _, n := range []int{256, 257, 264, 265, 65536 + 1, 65536 + 9, 1 << 20} {
		all = append(all, "s"+strings.Repeat("0", n-1), "m"+strings.Repeat("0", n-1), strings.Repeat("t", n))
	}
	for _, n := range []int{0, 1, 42, 255, 99999999} {
		for _, kind := range []int{1, 2, 3, 4} {
			all = append(all, near(written(kind, n))...)
		}
	}
	return all
}

// near is a name, all that differ from it in one byte, all that lack one, and all with one more.
func near(s string) []string {
	all := []string{s}
	for i := range len(s) + 1 {
		for c := range 256 {
			all = append(all, s[:i]+string([]byte{byte(c)})+s[i:])
			if i < len(s) {
				all = append(all, s[:i]+string([]byte{byte(c)})+s[i+1:])
			}
		}
		if i < len(s) {
			all = append(all, s[:i]+s[i+1:])
		}
	}
	return all
}

// expect tells if a name is not that of its kind and number, or doesn't tell these.
func expect(t *testing.T, kind, n int, want string) {
	t.Helper()
	if got := name.Of(kind, n); got != want {
		t.Errorf("%d, %d: %s, want %s", kind, n, shortly(got), want)
	}
	if k, m, is := name.Parse(want); k != kind || m != n || !is {
		t.Errorf("%s: %d, %d, %v; want %d, %d", want, k, m, is, kind, n)
	}
}

// expectSegments tells what Segments of a list are, if they aren't what is wanted.
func expectSegments(t *testing.T, what string, l []string, want []int) {
	t.Helper()
	if got := name.Segments(l); !slices.Equal(got, want) {
		t.Errorf("%s: %d numbers, %v; want %d, %v", what, len(got), got[:min(len(got), 20)], len(want), want[:min(len(want), 20)])
	}
}

// P5.1, E1: names that were written out by hand.
func TestExamples(t *testing.T) {
	for _, c := range []struct {
		kind, n int
		want    string
	}{
		{api.Segs, 42, "s00000042"}, {api.Segs, 0, "s00000000"}, {api.Segs, 1, "s00000001"}, {api.Segs, 10, "s00000010"},
		{api.Segs, 12345678, "s12345678"}, {api.Segs, 99999999, "s99999999"}, {api.Segs, 10000000, "s10000000"}, {api.Segs, 9999999, "s09999999"},
		{api.Hints, 42, "h00000042"}, {api.Hints, 0, "h00000000"}, {api.Hints, 90807060, "h90807060"}, {api.Hints, 99999999, "h99999999"},
		{api.Manifest, 0, "m"}, {api.Temp, 0, "t"},
		{1, 7, "s00000007"}, {2, 7, "h00000007"}, {3, 0, "m"}, {4, 0, "t"},
	} {
		expect(t, c.kind, c.n, c.want)
	}
}

// P5.1, E1: numbers of all lengths, of both kinds that have one.
func TestOfNumbers(t *testing.T) {
	for _, n := range numbers() {
		expect(t, api.Segs, n, written(1, n))
		expect(t, api.Hints, n, written(2, n))
	}
}

// P5.1, E1: numbers that no name has; of kinds without a number all but 0 are such.
func TestOfWrongNumbers(t *testing.T) {
	for _, n := range wrongNumbers() {
		for kind := api.Segs; kind <= api.Temp; kind++ {
			if got := name.Of(kind, n); got != "" {
				t.Errorf("%d, %d: %s", kind, n, shortly(got))
			}
		}
	}
	for _, n := range numbers()[1:] {
		if m, tmp := name.Of(api.Manifest, n), name.Of(api.Temp, n); m != "" || tmp != "" {
			t.Errorf("%d: %s, %s", n, shortly(m), shortly(tmp))
		}
	}
}

// P5.1, E1: kinds that are none have no name, whatever the number.
func TestOfWrongKinds(t *testing.T) {
	for _, kind := range wrongKinds() {
		for _, n := range append(wrongNumbers(), 0, 1, 42, 99999998, 99999999) {
			if got := name.Of(kind, n); got != "" {
				t.Errorf("%d, %d: %s", kind, n, shortly(got))
			}
		}
	}
}

// P5.1, E1; P2: of texts that are none's name nothing is told.
func TestParseOfAllTexts(t *testing.T) {
	names := 0
	for _, s := range texts() {
		kind, n, want := read(s)
		if want {
			names++
		}
		if k, m, is := name.Parse(s); k != kind || m != n || is != want {
			t.Errorf("%s, %d long: %d, %d, %v; want %d, %d, %v", shortly(s), len(s), k, m, is, kind, n, want)
		}
	}
	if names < 500 || names > len(texts())-10000 {
		t.Errorf("%d of %d texts are names", names, len(texts()))
	}
}

// P5.1, E1: texts of one byte, and of two, all of them.
func TestParseOfShortTexts(t *testing.T) {
	for c := range 1 << 16 {
		two := string([]byte{byte(c >> 8), byte(c)})
		if k, n, is := name.Parse(two); k != 0 || n != 0 || is {
			t.Errorf("%q: %d, %d, %v", two, k, n, is)
		}
		if c > 255 {
			continue
		}
		one := string([]byte{byte(c)})
		kind, _, want := read(one)
		if k, n, is := name.Parse(one); k != kind || n != 0 || is != want {
			t.Errorf("%q: %d, %d, %v; want %d, %v", one, k, n, is, kind, want)
		}
	}
}

// P5.2: a name tells its kind and its number, and what a text tells has that text as its name.
func TestThereAndBack(t *testing.T) {
	for _, n := range append(numbers(), wrongNumbers()...) {
		for kind := -1; kind <= 6; kind++ {
			s := name.Of(kind, n)
			k, m, is := name.Parse(s)
			if s != "" && (k != kind || m != n || !is) || s == "" && is {
				t.Errorf("%d, %d: %s: %d, %d, %v", kind, n, shortly(s), k, m, is)
			}
		}
	}
	for _, s := range texts() {
		if kind, n, is := name.Parse(s); is && name.Of(kind, n) != s {
			t.Errorf("%s: %d, %d, whose name is %s", shortly(s), kind, n, shortly(name.Of(kind, n)))
		}
	}
}

// P5.2: of numbers that rise names rise, by bytes; those of unlike kinds are unlike.
func TestNamesRise(t *testing.T) {
	has := map[string]int{name.Of(api.Manifest, 0): api.Manifest, name.Of(api.Temp, 0): api.Temp}
	all := numbers()
	for _, kind := range []int{api.Segs, api.Hints} {
		last := ""
		for _, n := range all {
			s := name.Of(kind, n)
			if s <= last {
				t.Errorf("%d, %d: %s, behind %s", kind, n, shortly(s), shortly(last))
			}
			last = s
			has[s] = kind
		}
	}
	if want := 2 + 2*len(all); len(has) != want {
		t.Errorf("%d names, want %d", len(has), want)
	}
}

// P5.1: names fit into a directory's: each is 1 to 16 bytes.
func TestNamesAreNotTooLong(t *testing.T) {
	for _, kind := range []int{api.Segs, api.Hints, api.Manifest, api.Temp} {
		for _, n := range []int{0, 42, 99999999} {
			if s := name.Of(kind, n); s != "" && len(s) > api.MaxName {
				t.Errorf("%d, %d: %s", kind, n, shortly(s))
			}
		}
	}
}

// P5.1, E2: lists that were written out by hand.
func TestSegmentsExamples(t *testing.T) {
	for i, c := range []struct {
		l    []string
		want []int
	}{
		{nil, nil},
		{[]string{}, nil},
		{[]string{""}, nil},
		{[]string{"m", "t", "h00000001", "s1", "x00000002", "S00000003", "s0000000a"}, nil},
		{[]string{"s00000042"}, []int{42}},
		{[]string{"s00000000"}, []int{0}},
		{[]string{"s00000000", "s00000000"}, []int{0}},
		{[]string{"s99999999", "s00000000"}, []int{0, 99999999}},
		{[]string{"h00000005", "s00000003", "m", "s00000001", "h00000001", "t", "s00000002"}, []int{1, 2, 3}},
		{[]string{"s00000010", "s00000002", "s00000010", "s00000009", "s00000002", "s00000010"}, []int{2, 9, 10}},
		{[]string{"s00000001", "s00000002", "s00000001"}, []int{1, 2}},
		{[]string{"s00000001", "s000000001", "s0000001", "s00000001 "}, []int{1}},
	} {
		expectSegments(t, strconv.Itoa(i), c.l, c.want)
	}
}

// P5.1, E2: a few names in all orders.
func TestSegmentsInAllOrders(t *testing.T) {
	var each func(l, left []string)
	each = func(l, left []string) {
		if len(left) == 0 {
			expectSegments(t, strings.Join(l, " "), l, []int{0, 7, 42, 99999999})
			return
		}
		for i, s := range left {
			each(append(slices.Clone(l), s), slices.Concat(left[:i], left[i+1:]))
		}
	}
	each(nil, []string{"s00000042", "h00000008", "s00000007", "s99999999", "s00000042", "s00000000", "s7"})
}

// P5.1, E2: long lists, with many of a kind, and others in between.
func TestSegmentsOfLongLists(t *testing.T) {
	c := chance(5)
	others := texts()
	for _, long := range []int{10, 100, 1000, 5000, 70000} {
		for _, most := range []int{1, 3, long, 100000000} {
			var l []string
			have := map[int]bool{}
			for range long {
				n := c.below(most)
				have[n] = true
				l = append(l, written(1, n), written(2, c.below(100000000)))
				if s := others[c.below(len(others))]; !strings.HasPrefix(s, "s") {
					l = append(l, s)
				}
			}
			var want []int
			for n := range have {
				want = append(want, n)
			}
			slices.Sort(want)
			expectSegments(t, fmt.Sprintf("%d below %d", long, most), l, want)
		}
	}
}

// P5.1, E2: of any texts those count of which Parse tells a segment.
func TestSegmentsOfAllTexts(t *testing.T) {
	var want []int
	for _, s := range texts() {
		kind, n, _ := read(s)
		if kind == 1 {
			want = append(want, n)
		}
		var alone []int
		if kind == 1 {
			alone = []int{n}
		}
		expectSegments(t, shortly(s), []string{s}, alone)
	}
	slices.Sort(want)
	expectSegments(t, "all texts", texts(), slices.Compact(want))
}

// P3: what is handed in is not changed, nor its spare room.
func TestArgumentsAreNotChanged(t *testing.T) {
	room := []string{"s00000009", "m", "s00000001", "s00000009", "h00000004", "s00000000", "spare", "s00000002"}
	for n := range len(room) + 1 {
		l := slices.Clone(room)
		name.Segments(l[:n])
		if !slices.Equal(l, room) {
			t.Errorf("the first %d: %q", n, l)
		}
	}
}

// P3: names in the spare room of a list are not its names.
func TestSpareRoomDoesNotCount(t *testing.T) {
	room := []string{"s00000009", "s00000003", "s00000001"}
	expectSegments(t, "one of three", room[:1], []int{9})
	expectSegments(t, "none of three", room[:0], nil)
}

// P3: a list that comes out is new memory, its spare room too; and it hangs on the argument alone.
func TestAnswersAreNewMemory(t *testing.T) {
	for long := range 40 {
		var l []string
		var want []int
		for i := range long {
			l = append(l, written(1, long-i), written(1, long-i), "m")
			want = append(want, i+1)
		}
		first, second := name.Segments(l), name.Segments(l)
		first = first[:cap(first)]
		for i := range first {
			first[i] = -7
		}
		if !slices.Equal(second, want) || slices.Contains(second[:cap(second)], -7) {
			t.Errorf("%d: two answers share memory: %v", long, second)
		}
		expectSegments(t, "once more", l, want)
	}
}

// P3: an answer hangs on the argument alone, not on other calls.
func TestAnswersHangOnArgumentsAlone(t *testing.T) {
	for range 2 {
		for _, n := range []int{99999999, 0, 42, 7} {
			for _, kind := range []int{4, 1, 3, 2, 0, 5} {
				if got := name.Of(kind, n); got != written(kind, n) {
					t.Errorf("%d, %d: %s", kind, n, shortly(got))
				}
				name.Parse("s9999999x")
				name.Segments([]string{"s77777777", "h1"})
			}
		}
	}
}
