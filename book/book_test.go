package book_test

import (
	"fmt"
	"maps"
	"math"
	"slices"
	"strconv"
	"strings"
	"testing"

	"souterrain/api"
	"souterrain/book"
)

// script does what stands in a text, one thing behind the other, and is what came of each (t or f), by these words:
//
//	3+10 put, alive   3.10 put, not alive   3-4 kill   3x drop
func script(t *testing.T, b *book.Book, todo string) string {
	t.Helper()
	came := ""
	for _, s := range strings.Fields(todo) {
		at := strings.IndexAny(s, "+.-x")
		seg, err := strconv.Atoi(s[:at])
		n := 0
		if s[at] != 'x' && err == nil {
			n, err = strconv.Atoi(s[at+1:])
		}
		if err != nil {
			t.Fatal(todo, err)
		}
		is := false
		switch s[at] {
		case '+':
			is = b.Put(seg, int64(n), true)
		case '.':
			is = b.Put(seg, int64(n), false)
		case '-':
			is = b.Kill(seg, int64(n))
		case 'x':
			is = b.Drop(seg)
		}
		came += fmt.Sprint(is)[:1]
	}
	return came
}

// shown is how much all segments of a book have, and how much of that is alive, with the numbers of Worst.
func shown(b *book.Book) string {
	s := ""
	for _, u := range b.All() {
		s += fmt.Sprintf("%d:%d,%d ", u.Seg, u.All, u.Live)
	}
	return s + fmt.Sprint(b.Worst())
}

// P12.1, L1 to L3: what was written out by hand, the document's example ahead of all.
func TestExamples(t *testing.T) {
	for _, x := range []struct {
		todo, came, want string
		all, live        int64
	}{
		{"3+10 3-4", "tt", "3:10,6 [3]", 10, 6},
		{"", "", "[]", 0, 0},
		{"3+0", "t", "3:0,0 [3]", 0, 0},
		{"3.0", "t", "3:0,0 [3]", 0, 0},
		{"0+1", "t", "0:1,1 [0]", 1, 1},
		{"99999999.1", "t", "99999999:1,0 [99999999]", 1, 0},
		{"100000000+1", "f", "[]", 0, 0},
		{"3+10", "t", "3:10,10 [3]", 10, 10},
		{"3.10", "t", "3:10,0 [3]", 10, 0},
		{"3+10 3+4 3.5 3.6", "tttt", "3:25,14 [3]", 25, 14},
		{"3+10 3-0", "tt", "3:10,10 [3]", 10, 10},
		{"3+10 3-10", "tt", "3:10,0 [3]", 10, 0},
		{"3+10 3-11", "tf", "3:10,10 [3]", 10, 10},
		{"3+10 3-4 3-4 3-4", "tttf", "3:10,2 [3]", 10, 2},
		{"3+10 3-4 3-7 3-6 3-1 3-0", "ttftft", "3:10,0 [3]", 10, 0},
		{"3.10 3-1 3-0", "tft", "3:10,0 [3]", 10, 0},
		{"3.10 3+1 3-2 3-1", "ttft", "3:11,0 [3]", 11, 0},
		{"3+1 4-1 4-0", "tff", "3:1,1 [3]", 1, 1},
		{"3-0 3x", "ff", "[]", 0, 0},
		{"3+10 3x 3x", "ttf", "[]", 0, 0},
		{"3+0 3x 3x", "ttf", "[]", 0, 0},
		{"3+10 3-4 3x 3+1", "tttt", "3:1,1 [3]", 1, 1},
		{"3.10 3x 3+1 3-2", "tttf", "3:1,1 [3]", 1, 1},
		{"3+10 3x 3-1 3-0", "ttff", "[]", 0, 0},
		{"3+10 4+5 3x", "ttt", "4:5,5 [4]", 5, 5},
		{"3+10 4+5 4x 4.2", "tttt", "3:10,10 4:2,0 [4 3]", 12, 10},
		{"3+10 1.5 2+0 3.4 3-4", "ttttt", "1:5,0 2:0,0 3:14,6 [3 1 2]", 19, 6},
		{"3+10 1.5 2+0 3.4 3-4 9.8", "tttttt", "1:5,0 2:0,0 3:14,6 9:8,0 [3 9 1 2]", 27, 6},
		{"10+1 9+1 100+1", "ttt", "9:1,1 10:1,1 100:1,1 [9 10 100]", 3, 3},
		{"10.1 9.1 100.1", "ttt", "9:1,0 10:1,0 100:1,0 [9 10 100]", 3, 0},
		{"1+9 2+9 1-1 2-2", "tttt", "1:9,8 2:9,7 [2 1]", 18, 15},
		{"1.5 1+90 2.6", "ttt", "1:95,90 2:6,0 [2 1]", 101, 90},
	} {
		b := book.New()
		came := script(t, b, x.todo)
		all, live := b.Sum()
		if got := shown(b); came != x.came || got != x.want || all != x.all || live != x.live {
			t.Errorf("%s: %s, %s, %d, %d; want %s, %s, %d, %d", x.todo, came, got, all, live, x.came, x.want, x.all, x.live)
		}
	}
}

// oddSegs are numbers that no segment has. The lowest bits of some are one's.
func oddSegs() []int {
	return []int{-1, -2, -99999999, -100000000, 100000000, 100000001, 1 << 31, 1 << 32, 1<<32 + 3, -1 << 32, -1<<32 + 3, math.MinInt32, math.MaxInt32, math.MinInt, math.MinInt + 3, math.MaxInt}
}

// oddAmounts are amounts that no Put may bring.
func oddAmounts() []int64 {
	return []int64{-1, -2, -5, -1 << 32, -1<<32 + 5, -1 << 40, -1 << 50, 1<<40 + 1, 1<<40 + 2, 1 << 41, 1 << 50, 1<<50 + 1, 1 << 62, math.MinInt64, math.MinInt64 + 1, math.MinInt64 + 5, math.MaxInt64, math.MaxInt64 - 1, math.MaxInt64 - 10}
}

// P12.1, L1: a new one has no segments.
func TestNew(t *testing.T) {
	h := hold(t)
	h.same()
	for _, seg := range append(oddSegs(), 0, 1, api.MaxSeg) {
		if u, is := h.b.Of(seg); is || u != (api.Use{}) {
			t.Error(seg, u, is)
		}
	}
	if len(h.b.All()) != 0 || len(h.b.Worst()) != 0 {
		t.Error(shown(h.b))
	}
}

// P12.1, L2: the least and the greatest segment's number, and those between, may have what others have not.
func TestPutOfEachSegment(t *testing.T) {
	for _, seg := range []int{0, 1, 2, 255, 256, 65535, 65536, 1 << 24, 99999998, 99999999} {
		for _, live := range []bool{true, false} {
			h := hold(t)
			h.yes(h.put(seg, 0, live))
			h.yes(h.put(seg, 7, live))
			h.yes(h.put((seg+1)%100000000, 5, !live))
			h.yes(h.kill(seg, 0))
			h.yes(h.drop(seg))
		}
	}
}

// P12.1, L2, and P1: what is no segment's number is told false of, and nothing has changed, though another one be there.
func TestNoSegments(t *testing.T) {
	h := hold(t)
	for range 2 {
		for _, seg := range oddSegs() {
			for _, n := range append(oddAmounts(), 0, 1, 1<<40) {
				h.no(h.put(seg, n, true))
				h.no(h.put(seg, n, false))
				h.no(h.kill(seg, n))
			}
			h.no(h.drop(seg))
			h.same()
		}
		for _, seg := range []int{0, 1, 3, 5, api.MaxSeg} {
			h.yes(h.put(seg, 9, true))
		}
	}
}

// P12.1, L2: how much a Put may bring: 0, 2^40, and all between.
func TestPutOfEachAmount(t *testing.T) {
	for _, n := range []int64{0, 1, 2, 255, 256, 1<<31 - 1, 1 << 31, 1<<32 - 1, 1 << 32, 1<<32 + 1, 1<<40 - 1, 1 << 40} {
		for _, live := range []bool{true, false} {
			h := hold(t)
			h.yes(h.put(7, n, live))
			h.yes(h.put(7, n, live))
			h.yes(h.put(7, n, !live))
			h.yes(h.put(6, n, !live))
		}
	}
}

// P12.1, L2, and P1: no other amount is put, be the segment there or not, nor is it there then.
func TestPutOfWrongAmounts(t *testing.T) {
	h := hold(t)
	h.yes(h.put(3, 10, true))
	h.yes(h.put(4, 10, false))
	for _, n := range oddAmounts() {
		for _, seg := range []int{0, 2, 3, 4, api.MaxSeg} {
			h.no(h.put(seg, n, true))
			h.no(h.put(seg, n, false))
		}
		h.same()
	}
}

// fill puts as much into a segment as its 2^50 are, but for a few.
func fill(h *held, seg int, few int64, live bool) {
	for range 1023 {
		h.yes(h.b.Put(seg, 1<<40, live))
	}
	h.yes(h.b.Put(seg, 1<<40-few, live))
	e := entry{seg: seg, all: 1<<50 - few}
	if live {
		e.live = e.all
	}
	h.p.add(e)
	h.same()
}

// P12.1, L2: a segment has 2^50 at most; another one has its own.
func TestMostOfASegment(t *testing.T) {
	for _, live := range []bool{true, false} {
		for _, few := range []int64{0, 1, 2, 1 << 31, 1 << 39} {
			h := hold(t)
			fill(h, 5, few, live)
			for _, n := range []int64{few + 1, few + 2, few + 1<<32, 1 << 40} {
				h.no(h.put(5, n, live))
				h.no(h.put(5, n, !live))
			}
			h.yes(h.put(5, few, !live))
			h.yes(h.put(5, 0, live))
			h.no(h.put(5, 1, live))
			h.yes(h.put(6, 1<<40, live))
			h.yes(h.put(4, 1, !live))
			h.same()
		}
	}
}

// P12.1, L2: what is killed gives no room to a segment; what is dropped does.
func TestRoomOfASegment(t *testing.T) {
	h := hold(t)
	fill(h, 5, 0, true)
	h.yes(h.kill(5, 1<<40))
	h.no(h.put(5, 1, true))
	h.no(h.put(5, 1, false))
	h.no(h.kill(5, 1<<50))
	h.yes(h.kill(5, 1<<50-1<<40))
	h.no(h.put(5, 1, true))
	h.no(h.kill(5, 1))
	h.yes(h.drop(5))
	h.yes(h.put(5, 1<<40, true))
	h.yes(h.put(5, 1<<40, false))
}

// P12.1, L2, and P12.2: of each amount that is alive as much may be killed, at once or in two, and no more.
func TestKill(t *testing.T) {
	for _, live := range []int64{0, 1, 2, 10, 1<<31 - 1, 1 << 31, 1 << 32, 1<<32 + 1, 1 << 40} {
		for _, rest := range []int64{0, 1, 20, 1 << 40} {
			for _, n := range []int64{0, 1, 2, 5, live / 2, live - 1, live} {
				if n < 0 || n > live {
					continue
				}
				h := hold(t)
				h.yes(h.put(5, live, true))
				h.yes(h.put(5, rest, false))
				h.yes(h.put(4, live, true))
				h.no(h.kill(5, live+1))
				h.no(h.kill(5, live+rest+1))
				h.yes(h.kill(5, n))
				h.no(h.kill(5, live-n+1))
				h.yes(h.kill(5, live-n))
				h.no(h.kill(5, 1))
				h.yes(h.kill(5, 0))
			}
		}
	}
}

// P12.1, L2, and P1: nothing is killed of what is not there, nor an amount that is below 0, or above all.
func TestWrongKills(t *testing.T) {
	h := hold(t)
	h.yes(h.put(3, 10, true))
	h.yes(h.put(3, 10, false))
	h.yes(h.put(4, 0, true))
	h.yes(h.put(6, 8, true))
	h.yes(h.drop(6))
	for _, n := range oddAmounts() {
		for _, seg := range []int{0, 2, 3, 4, 5, 6, api.MaxSeg} {
			h.no(h.kill(seg, n))
		}
	}
	for _, seg := range []int{0, 2, 5, 6, api.MaxSeg} {
		h.no(h.kill(seg, 0))
		h.no(h.kill(seg, 1))
	}
	h.no(h.kill(3, 11))
	h.no(h.kill(4, 1))
}

// P12.1, L2: each segment of many is dropped once, the others as they were; put again, it has nothing of what it had.
func TestDrop(t *testing.T) {
	for first := range 6 {
		h := hold(t)
		for seg := range 6 {
			h.yes(h.put(seg, int64(10*seg), true))
			h.yes(h.put(seg, 3, false))
		}
		for i := range 6 {
			seg := (first + 5*i) % 6
			h.no(h.drop(seg + 6))
			h.yes(h.drop(seg))
			h.no(h.drop(seg))
			h.no(h.kill(seg, 0))
		}
		for seg := range 6 {
			h.yes(h.put(seg, 0, true))
			h.no(h.kill(seg, 1))
			h.yes(h.put(seg, 4, seg%2 == 0))
			h.yes(h.drop(seg))
			h.yes(h.put(seg, 2, seg%2 == 1))
		}
	}
}

// P12.1, L3, and P12.3: four segments, of each of which so much is dead, and so much more alive than of others, put in each order.
func TestWorstOfFew(t *testing.T) {
	segs := []int{7, 0, 30, 4}
	for deads := range 4 * 4 * 4 * 4 {
		for lives := range 3 {
			for from := range segs {
				h := hold(t)
				for i := range segs {
					at := (from + i) % len(segs)
					h.p.add(entry{seg: segs[at], all: 5*int64(at*lives) + int64(deads>>(2*at)&3), live: 5 * int64(at*lives)})
					h.yes(h.b.Put(segs[at], int64(deads>>(2*at)&3), false))
					h.yes(h.b.Put(segs[at], 5*int64(at*lives), true))
				}
				h.same()
			}
		}
	}
}

// P12.3: amounts whose lowest bits, or highest ones, are alike.
func TestWorstOfGreatAmounts(t *testing.T) {
	amounts := []int64{1 << 40, 1<<40 - 1, 1 << 39, 1<<39 + 1, 1 << 33, 1 << 32, 1<<32 + 1, 1<<32 - 1, 1 << 31, 1<<31 - 1, 1 << 16, 256, 2, 1, 0}
	for from := range amounts {
		h := hold(t)
		for i := range amounts {
			h.yes(h.put(20-i, amounts[(i+from)%len(amounts)], false))
			h.yes(h.put(20-i, amounts[(5*i+from)%len(amounts)], true))
		}
		for i := range amounts {
			h.yes(h.kill(20-i, amounts[(5*i+from)%len(amounts)]/2))
		}
	}
	h := hold(t)
	fill(h, 3, 1, false)
	fill(h, 2, 0, true)
	fill(h, 1, 2, false)
	fill(h, 0, 1, false)
	h.yes(h.put(9, 1<<40, false))
}

// P12.3, and rule 5: of very many segments, as much dead of many, each is told once, in order, the same each time.
func TestWorstOfMany(t *testing.T) {
	c := chance(5)
	for _, alike := range []int{1, 3, 100, 1 << 30} {
		b := book.New()
		deads := map[int]int64{}
		for range 20000 {
			seg, n := c.below(100000000), int64(c.below(alike))
			b.Put(seg, n, false)
			b.Put(seg, int64(c.below(1000)), true)
			deads[seg] += n
		}
		got := b.Worst()
		if all := slices.Sorted(slices.Values(got)); !slices.Equal(all, slices.Sorted(maps.Keys(deads))) {
			t.Errorf("%d numbers of %d segments", len(got), len(deads))
		}
		for i := 1; i < len(got); i++ {
			x, y := deads[got[i-1]], deads[got[i]]
			if x < y || x == y && got[i-1] >= got[i] {
				t.Fatalf("%d, of which %d is dead, ahead of %d, of which %d is", got[i-1], x, got[i], y)
			}
		}
		for range 3 {
			if !slices.Equal(b.Worst(), got) {
				t.Error("another order")
			}
		}
	}
}

// P12.1, L1, and P12.2: sums of as much as an int64 holds, and of more, which are told as the most that it does.
func TestGreatSums(t *testing.T) {
	b := book.New()
	expect := func(all, live int64) {
		t.Helper()
		if n, m := b.Sum(); n != all || m != live {
			t.Errorf("%d, %d; want %d, %d", n, m, all, live)
		}
	}
	for seg := range 1 << 13 {
		for i := range 1 << 10 {
			if !b.Put(seg, 1<<40, i > 0) {
				t.Fatal(seg, i)
			}
		}
		if seg == 1<<13-2 {
			expect(math.MaxInt64-1<<50+1, (1<<13-1)*(1<<50-1<<40))
		}
	}
	expect(math.MaxInt64, 1<<13*(1<<50-1<<40))
	for i := range 9 {
		for range 1 << 10 {
			b.Put(1<<13+i, 1<<40, true)
		}
	}
	expect(math.MaxInt64, math.MaxInt64)
	for i := range 9 {
		b.Kill(1<<13+i, 1<<50)
	}
	expect(math.MaxInt64, 1<<13*(1<<50-1<<40))
	for i := range 10 {
		b.Drop(1<<13 + 8 - i)
	}
	expect(math.MaxInt64-1<<50+1, (1<<13-1)*(1<<50-1<<40))
}

// P12.1 to P12.3: any calls, a great many of them, wrong ones too.
func TestAnyCalls(t *testing.T) {
	c := chance(12)
	for round := range 200 {
		h := hold(t)
		segs := []int{0, 1, 2, 3, 99999998, 99999999, -1, 100000000}[:1+round%8]
		amounts := []int64{0, 1, 2, 3, 4, 7, 1 << 39, 1 << 40, -1, 1<<40 + 1}[:1+c.below(10)]
		for range 60 {
			seg, n := segs[c.below(len(segs))], amounts[c.below(len(amounts))]
			switch c.below(8) {
			case 0:
				h.drop(seg)
			case 1, 2, 3:
				h.kill(seg, n)
			default:
				h.put(seg, n, c.below(3) > 0)
			}
		}
	}
}

// P1: no arguments have a call panic, whatever was called ahead of it.
func TestAllArguments(t *testing.T) {
	segs := append(oddSegs(), 0, 1, api.MaxSeg)
	amounts := append(oddAmounts(), 0, 1, 5, 1<<40)
	h := hold(t)
	for _, seg := range segs {
		for _, n := range amounts {
			h.put(seg, n, true)
			h.put(seg, n, false)
			h.kill(seg, n)
		}
	}
	for _, seg := range segs {
		h.drop(seg)
	}
}

// P3: lists are new memory, their spare room too: who writes over one changes no other, nor the book.
func TestListsAreNew(t *testing.T) {
	for n := range 40 {
		h := hold(t)
		for i := range n {
			h.yes(h.b.Put(100-i, int64(i%7), i%2 == 0))
			h.p.add(entry{seg: 100 - i, all: int64(i % 7), live: int64(i%7) * int64(1-i%2)})
		}
		all, worst := h.b.All(), h.b.Worst()
		again, againWorst := h.b.All(), h.b.Worst()
		clear(all[:cap(all)])
		clear(worst[:cap(worst)])
		if !slices.Equal(again, h.p.all()) || !slices.Equal(againWorst, h.p.worst()) {
			t.Errorf("of %d segments: lists share memory", n)
		}
		h.same()
	}
}

// P3: what was told stays as it was, whatever is done behind it.
func TestListsStay(t *testing.T) {
	h := hold(t)
	for seg := range 20 {
		h.yes(h.put(seg, int64(seg*13%7), seg%3 == 0))
	}
	all, worst := h.b.All(), h.b.Worst()
	wantAll, wantWorst := slices.Clone(all), slices.Clone(worst)
	for seg := range 20 {
		h.yes(h.put(seg, 5, true))
		h.yes(h.kill(seg, 4))
		h.yes(h.drop(seg))
		h.yes(h.put(30+seg, 9, false))
	}
	if !slices.Equal(all, wantAll) || !slices.Equal(worst, wantWorst) {
		t.Error(all, worst)
	}
}

// P3: no answer hangs on another book's calls.
func TestBooksAreTheirOwn(t *testing.T) {
	all := []*held{hold(t), hold(t), hold(t)}
	c := chance(9)
	for range 300 {
		h := all[c.below(3)]
		h.put(c.below(5), int64(c.below(9)), true)
		all[c.below(3)].kill(c.below(5), int64(c.below(9)))
		if c.below(9) == 0 {
			all[c.below(3)].drop(c.below(5))
		}
		for _, h := range all {
			h.same()
		}
	}
}
