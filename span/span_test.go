package span_test

import (
	"bytes"
	"math"
	"slices"
	"testing"

	"souterrain/api"
	"souterrain/span"
)

// chance tells numbers that look like no pattern, but are the same each time.
type chance uint64

func (c *chance) below(n int) int {
	*c = *c*6364136223846793005 + 1442695040888963407
	return int(uint64(*c) >> 33 % uint64(n))
}

// alike is count sizes that are all one.
func alike(count, size int) []int {
	return slices.Repeat([]int{size}, count)
}

// part is a part, written short.
func part(piece, from, to int) api.Part {
	return api.Part{Piece: piece, From: from, To: to}
}

// plainSize is the sum of right sizes, by the document's words.
func plainSize(sizes []int) int {
	all := 0
	for _, n := range sizes {
		all += n
	}
	return all
}

// plainClip is what Clip is to answer, by the document's words, in numbers that hold off and n together.
func plainClip(size, off, n int) (int, int, bool) {
	if size < 0 || size > 1<<30 || off < 0 || off > size || n < 0 {
		return 0, 0, false
	}
	return off, int(min(uint64(off)+uint64(n), uint64(size))), true
}

// plainParts is what Parts is to answer of right sizes, by the document's words: each byte of a piece is asked whether the range has it.
func plainParts(sizes []int, off, n int) []api.Part {
	from, to, is := plainClip(plainSize(sizes), off, n)
	if !is {
		return nil
	}
	var parts []api.Part
	at := 0
	for i, size := range sizes {
		p := api.Part{Piece: i, From: -1}
		for j := range size {
			if at >= from && at < to {
				if p.From < 0 {
					p.From = j
				}
				p.To = j + 1
			}
			at++
		}
		if p.From >= 0 {
			parts = append(parts, p)
		}
	}
	return parts
}

// short is sizes as they are told of a fault.
func short(sizes []int) []int {
	return sizes[:min(len(sizes), 12)]
}

// expectParts tells if Parts isn't that.
func expectParts(t *testing.T, sizes []int, off, n int, want []api.Part) {
	t.Helper()
	if got := span.Parts(sizes, off, n); !slices.Equal(got, want) {
		t.Fatalf("%d sizes %v; off %d, n %d: %.200v; want %.200v", len(sizes), short(sizes), off, n, got, want)
	}
}

// expectRange tells if Parts isn't what it is to be, and if the parts of pieces aren't the range of all pieces.
func expectRange(t *testing.T, sizes []int, off, n int) {
	t.Helper()
	expectParts(t, sizes, off, n, plainParts(sizes, off, n))
	expectBytes(t, sizes, off, n)
}

// expectBytes tells if the parts of pieces, one behind the other, aren't the range of all pieces, or if one is empty.
func expectBytes(t *testing.T, sizes []int, off, n int) {
	t.Helper()
	var pieces [][]byte
	c := chance(7)
	for _, size := range sizes {
		b := make([]byte, size)
		for i := range b {
			b[i] = byte(c.below(256))
		}
		pieces = append(pieces, b)
	}
	all := bytes.Join(pieces, nil)
	var want []byte
	if off >= 0 && off <= len(all) && n >= 0 {
		want = all[off:]
		want = want[:min(n, len(want))]
	}
	var got []byte
	last := -1
	for _, p := range span.Parts(sizes, off, n) {
		if p.Piece <= last || p.From >= p.To {
			t.Fatalf("%d sizes %v; off %d, n %d: %v behind a part of piece %d", len(sizes), short(sizes), off, n, p, last)
		}
		last = p.Piece
		got = append(got, pieces[p.Piece][p.From:p.To]...)
	}
	if !bytes.Equal(got, want) {
		t.Fatalf("%d sizes %v; off %d, n %d: the parts are %d long, and not the range of %d", len(sizes), short(sizes), off, n, len(got), len(want))
	}
}

// expectNoSizes tells if something is answered of sizes that are none.
func expectNoSizes(t *testing.T, what string, sizes []int) {
	t.Helper()
	if got := span.Size(sizes); got != 0 {
		t.Errorf("%s: size %d", what, got)
	}
	for _, off := range []int{math.MinInt, -1, 0, 1, 2, 4096, math.MaxInt} {
		for _, n := range []int{math.MinInt, -1, 0, 1, 2, 4096, math.MaxInt} {
			if got := span.Parts(sizes, off, n); len(got) != 0 {
				t.Errorf("%s; off %d, n %d: %.200v", what, off, n, got)
			}
		}
	}
}

// P7.1, G2: what was written out by hand, the document's example ahead of all.
func TestExamples(t *testing.T) {
	for _, x := range []struct {
		sizes  []int
		off, n int
		want   []api.Part
	}{
		{[]int{3, 3, 2}, 2, 5, []api.Part{part(0, 2, 3), part(1, 0, 3), part(2, 0, 1)}},
		{[]int{3, 3, 2}, 0, 8, []api.Part{part(0, 0, 3), part(1, 0, 3), part(2, 0, 2)}},
		{[]int{3, 3, 2}, 0, 9, []api.Part{part(0, 0, 3), part(1, 0, 3), part(2, 0, 2)}},
		{[]int{3, 3, 2}, 0, 7, []api.Part{part(0, 0, 3), part(1, 0, 3), part(2, 0, 1)}},
		{[]int{3, 3, 2}, 0, 6, []api.Part{part(0, 0, 3), part(1, 0, 3)}},
		{[]int{3, 3, 2}, 0, 3, []api.Part{part(0, 0, 3)}},
		{[]int{3, 3, 2}, 0, 1, []api.Part{part(0, 0, 1)}},
		{[]int{3, 3, 2}, 1, 1, []api.Part{part(0, 1, 2)}},
		{[]int{3, 3, 2}, 2, 1, []api.Part{part(0, 2, 3)}},
		{[]int{3, 3, 2}, 2, 2, []api.Part{part(0, 2, 3), part(1, 0, 1)}},
		{[]int{3, 3, 2}, 3, 3, []api.Part{part(1, 0, 3)}},
		{[]int{3, 3, 2}, 3, 4, []api.Part{part(1, 0, 3), part(2, 0, 1)}},
		{[]int{3, 3, 2}, 4, 1, []api.Part{part(1, 1, 2)}},
		{[]int{3, 3, 2}, 7, 1, []api.Part{part(2, 1, 2)}},
		{[]int{3, 3, 2}, 7, 2, []api.Part{part(2, 1, 2)}},
		{[]int{3, 3, 2}, 8, 1, nil},
		{[]int{3, 3, 2}, 8, 0, nil},
		{[]int{3, 3, 2}, 9, 0, nil},
		{[]int{3, 3, 2}, 9, 1, nil},
		{[]int{3, 3, 2}, -1, 5, nil},
		{[]int{3, 3, 2}, 2, -1, nil},
		{[]int{3, 3, 2}, 0, 0, nil},
		{[]int{3, 3, 2}, 2, 0, nil},
		{[]int{3, 3, 2}, 3, 0, nil},
		{[]int{1}, 0, 1, []api.Part{part(0, 0, 1)}},
		{[]int{1}, 1, 1, nil},
		{[]int{4096}, 4095, 4096, []api.Part{part(0, 4095, 4096)}},
		{[]int{}, 0, 0, nil},
		{[]int{}, 0, 1, nil},
		{nil, 0, 1, nil},
	} {
		expectParts(t, x.sizes, x.off, x.n, x.want)
	}
}

// P7.1, G1: the sum of all, with as many sizes as may be, as great as may be.
func TestSize(t *testing.T) {
	for _, x := range []struct {
		sizes []int
		want  int
	}{
		{nil, 0},
		{[]int{}, 0},
		{[]int{1}, 1},
		{[]int{4096}, 4096},
		{[]int{3, 3, 2}, 8},
		{[]int{1, 4096, 1}, 4098},
		{[]int{4096, 4095}, 8191},
		{alike(511, 1), 511},
		{alike(512, 1), 512},
		{alike(16, 4096), 65536},
		{alike(512, 4096), 1 << 21},
		{append(alike(511, 4096), 1), 1<<21 - 4095},
	} {
		if got := span.Size(x.sizes); got != x.want {
			t.Errorf("%d sizes %v: %d; want %d", len(x.sizes), short(x.sizes), got, x.want)
		}
	}
}

// P7.1, G1: each size that a piece may have, alone and among others, and each count of them.
func TestEachSizeAndCount(t *testing.T) {
	for size := 1; size <= api.MaxPiece; size++ {
		if got := span.Size([]int{size}); got != size {
			t.Errorf("size %d: %d", size, got)
		}
		if got := span.Size([]int{2, size, 5}); got != size+7 {
			t.Errorf("size %d and 7: %d", size, got)
		}
		expectParts(t, []int{2, size, 5}, 1, size+2, []api.Part{part(0, 1, 2), part(1, 0, size), part(2, 0, 1)})
	}
	for count := range api.MaxPieces + 1 {
		sizes := alike(count, 3)
		if got := span.Size(sizes); got != 3*count {
			t.Errorf("%d sizes: %d", count, got)
		}
		expectRange(t, sizes, min(2, 3*count), 3*count)
		if count > 0 {
			expectParts(t, sizes, 3*count-1, 9, []api.Part{part(count-1, 2, 3)})
		}
	}
}

// P7.1, G1 and G2: what is no size has all be none, wherever it stands; the lowest bits of some are a size's.
func TestNoSizes(t *testing.T) {
	for _, wrong := range []int{0, -1, -2, -3, -4095, -4096, -4097, 4097, 4098, 8192, 65536, 65537, 1<<30 - 1, 1 << 30, 1<<30 + 1, 1 << 32, 1<<32 + 1, 1<<32 + 4096, -1 << 32, -1<<32 + 2, math.MaxInt32, math.MinInt32, math.MaxInt, math.MaxInt - 1, math.MinInt, math.MinInt + 1} {
		for count := 1; count <= 4; count++ {
			for at := range count {
				sizes := alike(count, 2)
				sizes[at] = wrong
				expectNoSizes(t, "one is wrong", sizes)
			}
			expectNoSizes(t, "all are wrong", alike(count, wrong))
		}
		for _, at := range []int{0, 1, 255, 256, 510, 511} {
			sizes := alike(api.MaxPieces, 4096)
			sizes[at] = wrong
			expectNoSizes(t, "one of many is wrong", sizes)
		}
	}
}

// P7.1, G1 and G2: wrong sizes that make up for each other are wrong.
func TestWrongSizesWhoseSumIsRight(t *testing.T) {
	for _, sizes := range [][]int{{0, 0}, {-1, 1}, {1, -1}, {3, -1, 3}, {5000, -1000}, {-1000, 5000}, {math.MaxInt, math.MaxInt, 4}, {math.MinInt, math.MinInt, 2}, {math.MaxInt, 1, math.MinInt, 8}, {1 << 62, 1 << 62, 1 << 62, 1 << 62, 3}} {
		expectNoSizes(t, "sizes that make up for each other", sizes)
	}
}

// P7.1, G1 and G2: more sizes than may be are none, however small they are.
func TestTooManySizes(t *testing.T) {
	for _, count := range []int{513, 514, 600, 1024, 1025, 4096, 65536, 65537, 1 << 20} {
		expectNoSizes(t, "too many", alike(count, 1))
		expectNoSizes(t, "too many long ones", alike(count, 4096))
		expectNoSizes(t, "too many wrong ones", alike(count, 0))
	}
}

// expectClip tells if Clip isn't what it is to be.
func expectClip(t *testing.T, size, off, n int) {
	t.Helper()
	from, to, is := span.Clip(size, off, n)
	wantFrom, wantTo, wantIs := plainClip(size, off, n)
	if from != wantFrom || to != wantTo || is != wantIs {
		t.Errorf("size %d, off %d, n %d: %d, %d, %t; want %d, %d, %t", size, off, n, from, to, is, wantFrom, wantTo, wantIs)
	}
}

// P7.1, G1, and P2: what Clip answers was written out by hand.
func TestClipExamples(t *testing.T) {
	const most = 1 << 30
	for _, x := range []struct {
		size, off, n int
		from, to     int
		is           bool
	}{
		{8, 2, 5, 2, 7, true},
		{8, 2, 6, 2, 8, true},
		{8, 2, 7, 2, 8, true},
		{8, 2, 0, 2, 2, true},
		{8, 0, 8, 0, 8, true},
		{8, 8, 0, 8, 8, true},
		{8, 8, 1, 8, 8, true},
		{8, 9, 0, 0, 0, false},
		{8, 9, 1, 0, 0, false},
		{8, -1, 3, 0, 0, false},
		{8, 2, -1, 0, 0, false},
		{8, 8, -1, 0, 0, false},
		{0, 0, 0, 0, 0, true},
		{0, 0, 1, 0, 0, true},
		{0, 1, 0, 0, 0, false},
		{0, 0, -1, 0, 0, false},
		{-1, 0, 0, 0, 0, false},
		{-1, -1, 0, 0, 0, false},
		{-1, -2, 1, 0, 0, false},
		{most, 0, most, 0, most, true},
		{most, most, most, most, most, true},
		{most, most - 1, 1, most - 1, most, true},
		{most, most - 1, math.MaxInt, most - 1, most, true},
		{most, most + 1, 0, 0, 0, false},
		{most + 1, 0, 0, 0, 0, false},
		{most + 1, 5, 5, 0, 0, false},
		{math.MaxInt, math.MaxInt, math.MaxInt, 0, 0, false},
		{math.MinInt, math.MinInt, math.MinInt, 0, 0, false},
		{8, 2, math.MaxInt, 2, 8, true},
		{8, 8, math.MaxInt, 8, 8, true},
		{8, 2, math.MinInt, 0, 0, false},
		{8, math.MinInt, 3, 0, 0, false},
		{8, math.MaxInt, 3, 0, 0, false},
	} {
		if from, to, is := span.Clip(x.size, x.off, x.n); from != x.from || to != x.to || is != x.is {
			t.Errorf("size %d, off %d, n %d: %d, %d, %t; want %d, %d, %t", x.size, x.off, x.n, from, to, is, x.from, x.to, x.is)
		}
	}
}

// edges are numbers about all limits, and ones whose lowest bits are like others'.
func edges() []int {
	all := []int{math.MinInt, math.MinInt + 1, math.MaxInt - 1, math.MaxInt}
	for _, x := range []int{0, 8, 4096, 65536, 1 << 21, 1 << 30, 1 << 31, 1 << 32, 1 << 62} {
		for d := -2; d <= 2; d++ {
			all = append(all, x+d, -(x + d))
		}
	}
	return all
}

// P7.1, G1: Clip, of all small numbers, and of all that stand at an edge.
func TestClip(t *testing.T) {
	for size := -3; size <= 12; size++ {
		for off := -3; off <= 15; off++ {
			for n := -3; n <= 20; n++ {
				expectClip(t, size, off, n)
			}
		}
	}
	for _, size := range edges() {
		for _, off := range edges() {
			for _, n := range edges() {
				expectClip(t, size, off, n)
			}
		}
	}
}

// P7.1, G1: Clip, of any numbers.
func TestClipOfAny(t *testing.T) {
	c := chance(5)
	for range 200000 {
		size := c.below(1<<30 + 1)
		off := c.below(size + 1)
		expectClip(t, size, off, c.below(1<<30+1))
		expectClip(t, size, off, size-off+c.below(3)-1)
		expectClip(t, size, off+c.below(1<<30), c.below(9))
	}
}

// rows calls with each row of at most so many sizes, each 1 to most.
func rows(count, most int, with func(sizes []int)) {
	var more func(sizes []int)
	more = func(sizes []int) {
		with(sizes)
		if len(sizes) == count {
			return
		}
		for n := 1; n <= most; n++ {
			more(append(sizes, n))
		}
	}
	more(make([]int, 0, count))
}

// P7.1, G2, and P7.2: short pieces, in all rows that there are, with each range.
func TestAllRangesOfShortPieces(t *testing.T) {
	rows(4, 3, func(sizes []int) {
		all := plainSize(sizes)
		if got := span.Size(sizes); got != all {
			t.Fatalf("sizes %v: %d; want %d", sizes, got, all)
		}
		for off := -2; off <= all+2; off++ {
			for n := -2; n <= all+2; n++ {
				expectRange(t, sizes, off, n)
			}
		}
	})
}

// P7.1, G2, and P7.2: ranges that begin, and end, about where pieces do.
func TestAtTheEdgesOfPieces(t *testing.T) {
	for _, sizes := range [][]int{{4096, 4096, 4096}, {1, 4096, 1}, {4095, 2, 4096, 1, 100}, {5, 1, 1, 7}} {
		places := []int{0}
		begin := 0
		for _, n := range sizes {
			begin += n
			places = append(places, begin)
		}
		for _, from := range places {
			for _, to := range places {
				for d := -1; d <= 1; d++ {
					for e := -1; e <= 1; e++ {
						expectRange(t, sizes, from+d, to+e-from-d)
					}
				}
			}
		}
	}
}

// P7.1, G2: a range may be asked to be as long as any number is; it ends where the pieces do.
func TestRangesThatAreTooLong(t *testing.T) {
	for _, sizes := range [][]int{{3, 3, 2}, {1}, alike(512, 4096)} {
		all := plainSize(sizes)
		for _, off := range []int{0, 1, all / 2, all - 1, all} {
			want := plainParts(sizes, off, all)
			for _, n := range []int{all, all + 1, 1 << 30, 1<<30 + 1, math.MaxInt32, 1 << 32, math.MaxInt - all, math.MaxInt - 1, math.MaxInt} {
				expectParts(t, sizes, off, n, want)
			}
		}
	}
}

// P1, P7.1, G2: of no range there is no part, with all numbers that stand at an edge.
func TestNoRange(t *testing.T) {
	sizes := []int{3, 3, 2}
	for _, off := range edges() {
		for _, n := range edges() {
			expectParts(t, sizes, off, n, plainParts(sizes, off, n))
			expectParts(t, nil, off, n, nil)
		}
	}
}

// P7.1, G2, and P7.2: values as long as may be, cut as they are: all pieces full, but the last one.
func TestCutValues(t *testing.T) {
	c := chance(3)
	for _, piece := range []int{128, 1000, 4095, 4096} {
		for _, n := range []int{1, piece - 1, piece, piece + 1, 60000, api.MaxValue} {
			sizes := alike(n/piece, piece)
			if n%piece > 0 {
				sizes = append(sizes, n%piece)
			}
			for range 8 {
				off := c.below(n + 1)
				expectRange(t, sizes, off, c.below(n+1))
				expectRange(t, sizes, off, c.below(min(n, 2*piece)))
			}
			expectRange(t, sizes, 0, n)
		}
	}
}

// P7.1, G2, and P7.2: any sizes, with any ranges.
func TestAnySizes(t *testing.T) {
	c := chance(9)
	for round := range 300 {
		sizes := make([]int, c.below([]int{5, 20, 100, api.MaxPieces + 1}[round%4]))
		for i := range sizes {
			sizes[i] = 1 + c.below([]int{1, 4, 60, 4096}[c.below(3)])
		}
		all := plainSize(sizes)
		if got := span.Size(sizes); got != all {
			t.Fatalf("%d sizes %v: %d; want %d", len(sizes), short(sizes), got, all)
		}
		for range 12 {
			off := c.below(all + 1)
			expectRange(t, sizes, off, c.below(all-off+2))
			expectRange(t, sizes, off, c.below(10))
		}
	}
}

// P7.2: as many pieces as may be, as long as may be: the whole, and ranges of it.
func TestTheMost(t *testing.T) {
	sizes := alike(api.MaxPieces, api.MaxPiece)
	for _, off := range []int{0, 1, 4095, 4096, 1 << 20, 1<<21 - 1, 1 << 21} {
		for _, n := range []int{0, 1, 4096, 4097, 1 << 20, 1 << 21} {
			expectRange(t, sizes, off, n)
		}
	}
}

// P3: what is handed in is as it was, and its spare room; what stands there is no size.
func TestArgumentsStay(t *testing.T) {
	room := []int{3, 3, 2, 0, -5, 9, 4097, 1, 77, 2}
	ahead := slices.Clone(room)
	for _, sizes := range [][]int{room[:0], room[:2], room[:3], room[:4], room[1:3], room[5:6], room[7:]} {
		if !slices.ContainsFunc(sizes, func(n int) bool { return n < 1 || n > api.MaxPiece }) {
			expectRange(t, sizes, 0, plainSize(sizes))
			expectRange(t, sizes, plainSize(sizes)/2, 99)
		} else {
			expectNoSizes(t, "one is wrong", sizes)
		}
		if !slices.Equal(room, ahead) {
			t.Fatalf("sizes have changed: %v", room)
		}
	}
}

// P3: what comes out is new memory, its spare room too: who writes over it, or over what was handed in, changes no other answer.
func TestAnswersAreNew(t *testing.T) {
	for count := 1; count <= 20; count++ {
		sizes := alike(count, 3)
		want := plainParts(sizes, 1, 3*count)
		first := span.Parts(sizes, 1, 3*count)
		second := span.Parts(sizes, 1, 3*count)
		clear(first[:cap(first)])
		if !slices.Equal(second, want) {
			t.Fatalf("%d sizes: two answers share memory", count)
		}
		clear(sizes)
		if !slices.Equal(second, want) {
			t.Fatalf("%d sizes: an answer shares memory with them", count)
		}
		expectParts(t, alike(count, 3), 1, 3*count, want)
	}
}

// P3: the same arguments have the same answer, whatever was asked ahead of it.
func TestNothingIsKept(t *testing.T) {
	sizes := []int{3, 3, 2}
	for range 3 {
		expectRange(t, sizes, 2, 5)
		expectNoSizes(t, "a wrong one", []int{1, 0})
		expectRange(t, alike(512, 1), 100, 300)
		expectClip(t, 8, 9, 1)
		expectClip(t, 8, 2, 5)
		if got := span.Size(sizes); got != 8 {
			t.Fatal("size", got)
		}
	}
}
