package cut_test

import (
	"bytes"
	"fmt"
	"math"
	"slices"
	"strings"
	"testing"

	"souterrain/api"
	"souterrain/cut"
)

// chance tells numbers that look like no pattern, but are the same each time.
type chance uint64

func (c *chance) below(n int) int {
	*c = *c*6364136223846793005 + 1442695040888963407
	return int(uint64(*c) >> 33 % uint64(n))
}

// text is n bytes of all kinds; unlike seeds give unlike bytes.
func text(n int, seed uint64) []byte {
	c := chance(seed)
	b := make([]byte, n)
	for i := range b {
		b[i] = byte(c.below(256))
	}
	return b
}

// plain is what a cutter is to answer, by the document's words: what is left is one list of bytes, and each piece is its first ones.
type plain struct {
	piece int
	size  int
	left  []byte
}

func (p *plain) write(b []byte) [][]byte {
	p.size += len(b)
	p.left = slices.Concat(p.left, b)
	var pieces [][]byte
	for len(p.left) >= p.piece {
		pieces = append(pieces, p.left[:p.piece])
		p.left = p.left[p.piece:]
	}
	return pieces
}

func (p *plain) rest() []byte {
	rest := p.left
	p.left = nil
	return rest
}

// held is a cutter, and what it is to answer.
type held struct {
	t    *testing.T
	what string
	c    *cut.Cutter
	p    plain
}

// hold is a new cutter, to which nothing was written.
func hold(t *testing.T, size int) *held {
	t.Helper()
	h := &held{t, fmt.Sprintf("pieces of %d:", size), cut.New(size), plain{piece: size}}
	if h.c == nil {
		t.Fatal(h.what, "none")
	}
	h.counts()
	return h
}

// counts tells if the numbers aren't what they are to be.
func (h *held) counts() {
	h.t.Helper()
	if h.c.Size() != h.p.size || h.c.Left() != len(h.p.left) {
		h.t.Fatalf("%s size %d, left %d; want %d, %d", h.what, h.c.Size(), h.c.Left(), h.p.size, len(h.p.left))
	}
}

// did has it stand in what is told of a fault what was done last.
func (h *held) did(what string, n int) {
	h.what += fmt.Sprintf(" %s %d", what, n)
	if len(h.what) > 400 {
		h.what = h.what[:100] + " .." + h.what[len(h.what)-200:]
	}
}

// write writes, and is the pieces.
func (h *held) write(b []byte) [][]byte {
	h.t.Helper()
	h.did("write", len(b))
	want := h.p.write(b)
	got := h.c.Write(b)
	if !slices.EqualFunc(got, want, bytes.Equal) {
		h.t.Fatalf("%s: %s; want %s", h.what, shown(got), shown(want))
	}
	h.counts()
	return got
}

// rest takes what is left.
func (h *held) rest() []byte {
	h.t.Helper()
	h.did("rest", len(h.p.left))
	want := h.p.rest()
	got := h.c.Rest()
	if !bytes.Equal(got, want) {
		h.t.Fatalf("%s: %.40x; want %.40x", h.what, got, want)
	}
	h.counts()
	return got
}

// shown is how many pieces there are, and the first ones.
func shown(pieces [][]byte) string {
	s := fmt.Sprintf("%d pieces", len(pieces))
	for _, p := range pieces[:min(len(pieces), 5)] {
		s += fmt.Sprintf(" %.20x (%d long)", p, len(p))
	}
	return s
}

// joined is pieces with a dot behind each.
func joined(pieces [][]byte) string {
	s := ""
	for _, p := range pieces {
		s += string(p) + "."
	}
	return s
}

// P6.1, F2: what was written out by hand, the document's example ahead of all. What stands ahead of a bar is written, with "!" the rest is taken; what came of each stands between bars, with a dot behind each piece.
func TestExamples(t *testing.T) {
	for _, x := range []struct {
		size       int
		done, want string
		all, left  int
	}{
		{2, "abc|de|!", "ab.|cd.|e", 5, 0},
		{2, "", "", 0, 0},
		{2, "|", "", 0, 0},
		{2, "!", "", 0, 0},
		{2, "a|", "", 1, 1},
		{2, "ab|", "ab.", 2, 0},
		{2, "ab|!", "ab.|", 2, 0},
		{2, "a|b|c|d|e|", "|ab.||cd.|", 5, 1},
		{2, "abcdefg|", "ab.cd.ef.", 7, 1},
		{3, "a||b||c|", "||||abc.", 3, 0},
		{3, "ab|cdefgh|!", "|abc.def.|gh", 8, 0},
		{3, "abcd|!|efg|", "abc.|d||efg.", 7, 0},
		{3, "abcd|!ef|!ghi|!", "abc.|d||ef|ghi.|", 9, 0},
		{1, "abc||d|!", "a.b.c.||d.|", 4, 0},
		{4096, "abc|de|!", "||abcde", 5, 0},
	} {
		var got []string
		c := cut.New(x.size)
		for todo := x.done; todo != ""; {
			if todo[0] == '!' {
				got = append(got, string(c.Rest()))
				todo = todo[1:]
				continue
			}
			b, behind, _ := strings.Cut(todo, "|")
			got = append(got, joined(c.Write([]byte(b))))
			todo = behind
		}
		if s := strings.Join(got, "|"); s != x.want || c.Size() != x.all || c.Left() != x.left {
			t.Errorf("pieces of %d, %q: %q, size %d, left %d; want %q, %d, %d", x.size, x.done, s, c.Size(), c.Left(), x.want, x.all, x.left)
		}
	}
}

// P6.1, F1: of each size that may be there is one, to which nothing was written.
func TestNewOfEachSize(t *testing.T) {
	for size := 1; size <= api.MaxPiece; size++ {
		h := hold(t, size)
		h.rest()
		h.write(text(size, 1))
	}
}

// P6.1, F1: of no other size there is one, though the lowest bits of some are one's.
func TestNewOfWrongSizes(t *testing.T) {
	for _, size := range []int{0, -1, -2, -3, -4095, -4096, -4097, 4097, 4098, 8192, 65535, 65536, 65537, 1 << 20, 1<<20 + 1, 1 << 32, 1<<32 + 1, 1<<32 + 4096, -1 << 32, -1<<32 + 2, math.MaxInt32, math.MinInt32, math.MaxInt, math.MaxInt - 1, math.MinInt, math.MinInt + 1} {
		if cut.New(size) != nil {
			t.Errorf("there is one of %d", size)
		}
	}
}

// P6.1, F2: three writes of all lengths, with the rest taken at each place, or not, and something written behind it.
func TestThreeWrites(t *testing.T) {
	b := text(100, 3)
	for size := 1; size <= 6; size++ {
		for lens := range 14 * 14 * 14 {
			for takes := range 8 {
				h := hold(t, size)
				at := 0
				for i, n := range []int{lens % 14, lens / 14 % 14, lens / 196} {
					h.write(b[at : at+n])
					at += n
					if takes>>i&1 == 1 {
						h.rest()
						h.rest()
					}
				}
				h.write(b[at : at+size])
				h.rest()
			}
		}
	}
}

// P6.1, F2: at the edges of a piece, with each number of bytes left.
func TestAtTheEdges(t *testing.T) {
	for _, size := range []int{1, 2, 3, 7, 8, 255, 256, 257, 4095, 4096} {
		b := text(3*size+2, uint64(size))
		for _, left := range []int{0, 1, 2, size / 2, size - 2, size - 1} {
			if left < 0 || left >= size {
				continue
			}
			for _, n := range []int{0, 1, size - left - 1, size - left, size - left + 1, size - 1, size, size + 1, 2*size - left - 1, 2*size - left, 2*size - left + 1, 2 * size, 3*size + 2} {
				h := hold(t, size)
				h.write(b[:left])
				h.write(b[:n])
				h.write(b[:1])
				h.rest()
				h.write(b[:size])
				h.rest()
			}
		}
	}
}

// P6.1, F2: nothing, nil or not, changes nothing, however often it is written.
func TestNothingIsWritten(t *testing.T) {
	for left := range 5 {
		h := hold(t, 5)
		h.write(text(left, 9))
		for _, b := range [][]byte{nil, {}, make([]byte, 0, 20), []byte("spare")[:0], nil} {
			h.write(b)
		}
		h.rest()
		h.write(nil)
		h.rest()
	}
}

// P6.1, F2: values as long as may be, and far longer ones, at once and byte by byte.
func TestLongOnes(t *testing.T) {
	for _, size := range []int{1, 2, 128, 1000, 4095, 4096} {
		for _, n := range []int{api.MaxValue - 1, api.MaxValue, api.MaxValue + 1, 1 << 20} {
			b := text(n, uint64(n))
			h := hold(t, size)
			h.write(b)
			h.write(b[:size-1])
			h.rest()
		}
		h := hold(t, size)
		b := text(api.MaxValue, 5)
		for i := range b {
			h.write(b[i : i+1])
		}
		h.rest()
	}
}

// P6.1, F2: any calls, a great many of them on one.
func TestAnyCalls(t *testing.T) {
	c := chance(11)
	b := text(20000, 4)
	for round := range 300 {
		size := 1 + c.below([]int{4, 20, 300, 4096}[round%4])
		h := hold(t, size)
		for range 60 {
			from := c.below(100)
			switch c.below(8) {
			case 0:
				h.rest()
			case 1:
				h.write(b[from : from+c.below(4*size+1)])
			case 2:
				h.write(b[from : from+size-h.c.Left()])
			default:
				h.write(b[from : from+c.below(size+1)])
			}
		}
	}
}

// splits calls with each row of lengths, none of them 0, that are n in all.
func splits(n int, with func(lens []int)) {
	for bars := range 1 << max(n-1, 0) {
		var lens []int
		last := 0
		for i := 1; i <= n; i++ {
			if i == n || bars>>(i-1)&1 == 1 {
				lens = append(lens, i-last)
				last = i
			}
		}
		with(lens)
	}
}

// expectWhole writes a text in parts of such lengths, and tells if pieces and the rest aren't it, or one isn't as long as it is to be.
func expectWhole(t *testing.T, b []byte, size int, lens []int) {
	t.Helper()
	c := cut.New(size)
	var got []byte
	at := 0
	for _, n := range lens {
		for _, p := range c.Write(b[at : at+n]) {
			if len(p) != size {
				t.Fatalf("pieces of %d, writes of %v: one is %d long", size, lens, len(p))
			}
			got = append(got, p...)
		}
		at += n
		if c.Size() != at || c.Left() != at-len(got) {
			t.Fatalf("pieces of %d, writes of %v: size %d, left %d of %d", size, lens, c.Size(), c.Left(), at)
		}
	}
	rest := c.Rest()
	got = append(got, rest...)
	if len(rest) >= size || !bytes.Equal(got, b) {
		t.Fatalf("pieces of %d, writes of %v: %d, %d of them the rest, of %d", size, lens, len(got), len(rest), len(b))
	}
}

// P6.2: short texts, in all Writes that there are, in pieces of all lengths.
func TestAllOfShortTexts(t *testing.T) {
	for n := range 13 {
		b := text(n, uint64(n))
		for size := 1; size <= n+2; size++ {
			splits(n, func(lens []int) { expectWhole(t, b, size, lens) })
		}
	}
}

// P6.2: long texts, in Writes that are all alike, and in ones of any length.
func TestAllOfLongTexts(t *testing.T) {
	c := chance(2)
	for _, size := range []int{1, 2, 5, 64, 1000, 4095, 4096} {
		for _, n := range []int{0, 1, 4095, 4096, 4097, 8192, 65536, 70001} {
			b := text(n, uint64(n))
			for _, each := range []int{1, 2, 3, 64, 4095, 4096, 4097, 70001} {
				var lens []int
				for left := n; left > 0; left -= min(left, each) {
					lens = append(lens, min(left, each))
				}
				expectWhole(t, b, size, lens)
			}
			var lens []int
			for left := n; left > 0; {
				some := c.below(min(left, 3*size) + 1)
				lens = append(lens, some)
				left -= some
			}
			expectWhole(t, b, size, lens)
		}
	}
}

// P3: what is handed in is as it was, and its spare room.
func TestArgumentsStay(t *testing.T) {
	room := text(60, 8)
	ahead := bytes.Clone(room)
	for size := 1; size <= 9; size++ {
		for from := range 10 {
			for n := range 30 {
				c := cut.New(size)
				for _, b := range [][]byte{room[from : from+n], room[:n], room[n : n+from]} {
					for _, p := range c.Write(b) {
						fill(p)
					}
				}
				fill(c.Rest())
				c.Write([]byte("other bytes"))
			}
		}
	}
	if !bytes.Equal(room, ahead) {
		t.Error("bytes have changed")
	}
}

// P3: spare room is not written: what stands in it is in no piece, and none is longer for it.
func TestSpareRoomDoesNotCount(t *testing.T) {
	room := text(40, 6)
	for n := range 20 {
		h := hold(t, 4)
		h.write(room[:n])
		h.write(room[20 : 20+n])
		h.rest()
	}
}

// P3: what is handed in is not kept: who writes over it behind a call changes nothing.
func TestArgumentsAreNotKept(t *testing.T) {
	all := text(200, 7)
	b := make([]byte, 40)
	for size := 1; size <= 9; size++ {
		for n := range 20 {
			h := hold(t, size)
			for i := range 8 {
				copy(b, all[i*n:])
				h.p.write(all[i*n : i*n+n])
				pieces := h.c.Write(b[:n])
				clear(b)
				for j, p := range pieces {
					from := i*n/size*size + j*size
					if !bytes.Equal(p, all[from:from+size]) {
						t.Fatalf("pieces of %d, writes of %d: one has changed", size, n)
					}
				}
			}
			h.rest()
		}
	}
}

// fill writes over bytes, and their spare room.
func fill(b []byte) {
	b = b[:cap(b)]
	for i := range b {
		b[i] = 7
	}
}

// P3: what comes out is new memory, its spare room too: of pieces of one call and of several, of their lists, of the rest, and of what is left then none shares any.
func TestAnswersAreNew(t *testing.T) {
	b := text(100, 12)
	for size := 1; size <= 20; size++ {
		for left := range size {
			for n := 0; n < 50; n += 3 {
				h := hold(t, size)
				lists := [][][]byte{h.write(b[:left+2*size]), h.write(b[:n]), h.write(b[n : n+n])}
				got := append(slices.Concat(lists...), h.rest())
				lists = append(lists, h.write(b[:size+left]))
				got = append(got, lists[3]...)
				want := make([][]byte, len(got))
				for i, p := range got {
					want[i] = bytes.Clone(p)
				}
				for _, l := range lists {
					clear(l[:cap(l)])
				}
				for i := range got {
					if !slices.EqualFunc(got[i:], want[i:], bytes.Equal) {
						t.Fatalf("%s: the answer %d, or one behind it, shares memory with one ahead", h.what, i)
					}
					fill(got[i])
				}
				h.rest()
			}
		}
	}
}

// P3: the pieces of one call stay as they were, whatever is written, and written over, behind it.
func TestPiecesStay(t *testing.T) {
	b := text(400, 13)
	for size := 1; size <= 40; size++ {
		c := cut.New(size)
		var got [][]byte
		for at := 0; at < len(b); at += 10 {
			for _, p := range c.Write(b[at : at+10]) {
				got = append(got, p[:len(p):len(p)])
				fill(p[len(p):])
			}
		}
		rest := c.Rest()
		fill(rest[len(rest):])
		c.Write(bytes.Repeat([]byte{9}, 100))
		fill(c.Rest())
		if !bytes.Equal(append(bytes.Join(got, nil), rest...), b) {
			t.Errorf("pieces of %d: what was told has changed", size)
		}
	}
}

// P3: no answer hangs on another cutter's calls.
func TestCuttersAreTheirOwn(t *testing.T) {
	b := text(300, 14)
	var all []*held
	for size := 1; size <= 12; size++ {
		all = append(all, hold(t, size), hold(t, size))
	}
	c := chance(15)
	for range 2000 {
		h := all[c.below(len(all))]
		if c.below(4) == 0 {
			h.rest()
			continue
		}
		from := c.below(200)
		h.write(b[from : from+c.below(40)])
	}
}

// P3: Size and Left change nothing, however often they are asked.
func TestAskingChangesNothing(t *testing.T) {
	h := hold(t, 3)
	for i := range 20 {
		for range 3 {
			h.counts()
		}
		h.write(text(i, 16))
		if i%5 == 4 {
			h.rest()
		}
	}
}

// P1, P6.1: what was told may be written again, to the same cutter too.
func TestPiecesAreWrittenAgain(t *testing.T) {
	h := hold(t, 4)
	last := h.write(text(22, 17))
	for range 6 {
		for _, p := range last {
			last = append(last[:0:0], h.write(p)...)
		}
		h.write(h.rest())
		last = append(last, h.write(text(9, 18))...)
	}
}
