package scan_test

import (
	"bytes"
	"math"
	"slices"
	"testing"

	"souterrain/api"
	"souterrain/frame"
	"souterrain/scan"
)

// body is n bytes that look like no pattern, but are the same each time; unlike seeds give unlike bytes.
func body(n int, seed uint64) []byte {
	b := make([]byte, n)
	for i := range b {
		seed = seed*6364136223846793005 + 1442695040888963407
		b[i] = byte(seed >> 56)
	}
	return b
}

// told is what All tells of bytes.
type told struct {
	bodies []api.Item
	passed int
	end    int
	err    api.Errno
}

// all is All, its answers in one.
func all(b []byte) told {
	l, passed, end, err := scan.All(b)
	return told{l, passed, end, err}
}

// sameItem is whether two items are alike, bytes and all.
func sameItem(x, y api.Item) bool {
	return x.At == y.At && x.Size == y.Size && bytes.Equal(x.B, y.B)
}

// same is whether two tellings are alike.
func same(x, y told) bool {
	return slices.EqualFunc(x.bodies, y.bodies, sameItem) && x.passed == y.passed && x.end == y.end && x.err == y.err
}

// expectAll tells what All of b is, if it isn't what is wanted.
func expectAll(t *testing.T, what string, b []byte, want told) {
	t.Helper()
	if got := all(b); !same(got, want) {
		t.Errorf("%s: %d bodies, %d passed by, to %d, error %d; want %d, %d, %d, %d", what,
			len(got.bodies), got.passed, got.end, int(got.err), len(want.bodies), want.passed, want.end, int(want.err))
	}
}

// expectNext tells what Next of b and at is, if it isn't what is wanted.
func expectNext(t *testing.T, what string, b []byte, at int, want api.Item, end int, err api.Errno) {
	t.Helper()
	got, to, e := scan.Next(b, at)
	if !sameItem(got, want) || to != end || e != err {
		t.Errorf("%s, from %d on: at %d, %d long, %q, to %d, error %d; want at %d, %d long, %q, to %d, error %d", what, at,
			got.At, got.Size, got.B, to, int(e), want.At, want.Size, want.B, end, int(err))
	}
}

// laid is bytes of parts one behind the other, and what is to be told of them: from 0 on, and from where each part begins on.
type laid struct {
	b     []byte
	whole told
	from  []told
	at    []int
}

// nth is the body of a part at a place.
func nth(i int) []byte { return body(1+i*7%12, uint64(i)) }

// lay lays a part for each letter of a text: w is a whole frame; s one that is spoilt in its body, S in its sum; c one whose length is spoilt, C one whose length is no body's, both with frames behind them; t a frame that is torn in its body, T in its length (these are last ones).
func lay(parts string) laid {
	var l laid
	for i := range parts {
		l.at = append(l.at, len(l.b))
		b := nth(i)
		f := frame.Put(b)
		switch parts[i] {
		case 's':
			f[4+len(b)/2] ^= 16
		case 'S':
			f[len(f)-1-i%4] ^= 1
		case 'c':
			f[i%4] ^= 128
		case 'C':
			f[0], f[1], f[2], f[3] = 32, 1, 223, 254
		case 't':
			f = f[:4+len(b)/2]
		case 'T':
			f = f[:1+i%3]
		}
		l.b = append(l.b, f...)
	}
	l.tell(parts)
	return l
}

// tell works out what is to be told, from the last part to the first one: each part puts one thing ahead of what is told from behind it on.
func (l *laid) tell(parts string) {
	next := told{end: len(l.b)}
	l.from = make([]told, len(parts))
	for i, end := len(parts)-1, len(l.b); i >= 0; i-- {
		at := l.at[i]
		switch parts[i] {
		case 'w':
			it := api.Item{At: at, Size: end - at, B: nth(i)}
			next.bodies = append([]api.Item{it}, next.bodies...)
		case 's', 'S':
			next.passed++
		case 'c', 'C':
			next = told{end: at, err: api.ErrCorrupt}
		default:
			next = told{end: at, err: api.ErrShort}
		}
		l.from[i] = next
		end = at
	}
	l.whole = next
}

// texts are all texts of up to n letters, of w, s and S.
func texts(n int) []string {
	all := []string{""}
	for done := 0; n > 0; n-- {
		last := all[done:]
		done = len(all)
		for _, s := range last {
			all = append(all, s+"w", s+"s", s+"S")
		}
	}
	return all
}

// endings are what may stand behind frames whose length is right.
func endings() []string {
	return []string{"", "t", "T", "c", "C", "cw", "Cw", "csw", "cwt", "wc", "wt", "cc"}
}

// P3.1, C2; the document's example: two frames, and half of one.
func TestAllExample(t *testing.T) {
	b := slices.Concat(frame.Put([]byte("one")), frame.Put([]byte("second")), frame.Put([]byte("the third one")))
	got := all(b[:11+14+10])
	want := told{bodies: []api.Item{{At: 0, Size: 11, B: []byte("one")}, {At: 11, Size: 14, B: []byte("second")}}, end: 25, err: api.ErrShort}
	if !same(got, want) {
		t.Error(got)
	}
}

// P3.1, C2: nothing has no bodies, and no error.
func TestAllOfNothing(t *testing.T) {
	for _, b := range [][]byte{nil, {}, make([]byte, 0, 100), frame.Put([]byte("a"))[:0]} {
		expectAll(t, "nothing", b, told{})
	}
}

// P3.1, C2: whole frames and spoilt ones in all orders, with each ending.
func TestAllOfAllOrders(t *testing.T) {
	for _, s := range texts(5) {
		for _, ending := range endings() {
			l := lay(s + ending)
			expectAll(t, s+ending, l.b, l.whole)
		}
	}
}

// P3.1, C2: bytes that are no frames at all.
func TestAllOfNoFrames(t *testing.T) {
	for n := 1; n < 40; n++ {
		err := api.ErrCorrupt
		if n < 4 {
			err = api.ErrShort
		}
		expectAll(t, "zeros", make([]byte, n), told{err: err})
		expectAll(t, "ones", bytes.Repeat([]byte{255}, n), told{err: err})
		expectAll(t, "a text", bytes.Repeat([]byte("text"), n)[:n], told{err: err})
	}
	for n := range 8192 {
		lens := []byte{byte((n + 1) >> 8), byte(n + 1), ^byte((n + 1) >> 8), ^byte(n + 1)}
		expectAll(t, "a length alone", lens, told{err: api.ErrShort})
	}
}

// P3.1, C1: a place that is not in b, and not its end, is wrong, and told as it was handed in.
func TestNextOutside(t *testing.T) {
	f := frame.Put([]byte("abc"))
	room := append(make([]byte, 0, 100), f...)
	for _, b := range [][]byte{nil, {}, {0}, f, f[:5], room, append(bytes.Clone(f), f...), lay("wsc").b, lay("sst").b} {
		n := len(b)
		for _, at := range []int{-1, -2, -n - 1, n + 1, n + 2, n + 50, 1 << 32, -1 << 32, 1<<32 + 3, math.MinInt, math.MinInt + 1, math.MaxInt, math.MaxInt - 1, math.MaxInt32, math.MinInt32} {
			expectNext(t, "outside", b, at, api.Item{}, at, api.ErrArg)
		}
	}
}

// P3.1, C1: where no byte stands there is nothing, and no error.
func TestNextAtTheEnd(t *testing.T) {
	expectNext(t, "nil", nil, 0, api.Item{}, 0, api.OK)
	expectNext(t, "empty", []byte{}, 0, api.Item{}, 0, api.OK)
	for _, s := range append(texts(3), "c", "C", "t", "T", "wc", "wt") {
		b := lay(s).b
		expectNext(t, s, b, len(b), api.Item{}, len(b), api.OK)
		room := slices.Concat(b, frame.Put([]byte("behind")))[:len(b)]
		expectNext(t, s+", in whose spare room a frame stands", room, len(b), api.Item{}, len(b), api.OK)
	}
}

// P3.1, C1: from where each part begins on: the next body, or why there is none.
func TestNextAtEachFrame(t *testing.T) {
	for _, s := range texts(5) {
		for _, ending := range endings() {
			l := lay(s + ending)
			for i, from := range l.from {
				if len(from.bodies) == 0 {
					expectNext(t, s+ending, l.b, l.at[i], api.Item{}, from.end, from.err)
					continue
				}
				it := from.bodies[0]
				expectNext(t, s+ending, l.b, l.at[i], it, it.At+it.Size, api.OK)
			}
		}
	}
}

// P3.1, C1: from any place on, in the midst of frames too, Next is what frame.First tells there, or behind what is passed by.
func TestNextAtEachPlace(t *testing.T) {
	inner := slices.Concat(frame.Put([]byte("in")), lay("sw").b)
	for _, b := range [][]byte{lay("wswSwst").b, lay("wwSsscw").b, slices.Concat(frame.Put(inner), frame.Put([]byte("out"))), bytes.Repeat([]byte{0, 1, 255, 254}, 20)} {
		for at := range len(b) + 1 {
			from := at
			got, n, err := frame.First(b[from:])
			for err != api.OK && n > 0 {
				from += n
				got, n, err = frame.First(b[from:])
			}
			switch {
			case err == api.OK:
				expectNext(t, "a body", b, at, api.Item{At: from, Size: n, B: got}, from+n, api.OK)
			case from == len(b):
				expectNext(t, "the end", b, at, api.Item{}, from, api.OK)
			default:
				expectNext(t, "an error", b, at, api.Item{}, from, err)
			}
		}
	}
}

// P3.1, C1: a frame that stands in another one's body is found from there on, and only from there on.
func TestNextInsideABody(t *testing.T) {
	in := frame.Put([]byte("in"))
	b := slices.Concat(frame.Put(in), frame.Put([]byte("out")))
	expectNext(t, "ahead", b, 0, api.Item{At: 0, Size: 18, B: in}, 18, api.OK)
	expectNext(t, "inside", b, 4, api.Item{At: 4, Size: 10, B: []byte("in")}, 14, api.OK)
	expectNext(t, "behind", b, 18, api.Item{At: 18, Size: 11, B: []byte("out")}, 29, api.OK)
	b[17]++
	expectNext(t, "spoilt", b, 0, api.Item{At: 18, Size: 11, B: []byte("out")}, 29, api.OK)
	expectNext(t, "inside a spoilt one", b, 4, api.Item{At: 4, Size: 10, B: []byte("in")}, 14, api.OK)
}

// byNext is what All is to tell, by Next alone: of 0, of where that ends, and so on. How many were passed by is worked out by the lengths that they tell.
func byNext(b []byte) told {
	var l told
	for {
		it, end, err := scan.Next(b, l.end)
		stop := it.At
		if it.Size == 0 {
			stop = end
		}
		for at := l.end; at < stop; l.passed++ {
			at += int(b[at])<<8 + int(b[at+1]) + 8
		}
		l.end, l.err = end, err
		if it.Size == 0 {
			return l
		}
		l.bodies = append(l.bodies, it)
	}
}

// P3.1, C2: All is Next over and over, of laid parts and of any bytes, whole and cut.
func TestAllIsNextOverAndOver(t *testing.T) {
	for _, s := range texts(4) {
		for _, ending := range endings() {
			b := lay(s + ending).b
			expectAll(t, s+ending, b, byNext(b))
		}
	}
	for seed := range uint64(3000) {
		b := body(int(seed%50), seed)
		expectAll(t, "any bytes", b, byNext(b))
		b = slices.Concat(lay("wsw").b, b)
		expectAll(t, "frames and any bytes", b, byNext(b))
		b[seed%uint64(len(b))] ^= byte(1 + seed%255)
		expectAll(t, "one of them turned", b, byNext(b))
	}
}

// bodies are bodies of lengths at which a frame's bytes turn over, of all kinds of bytes, frames among them.
func bodies() [][]byte {
	var l [][]byte
	for i, n := range []int{1, 2, 3, 4, 8, 9, 255, 256, 257, 1000, 4096, 8191, 8192, 1, 8192} {
		l = append(l, body(n, uint64(i)), make([]byte, n), bytes.Repeat([]byte{255}, n))
	}
	return append(l, frame.Put([]byte("in")), frame.Put(frame.Put([]byte("in"))), lay("wsw").b, lay("wc").b, lay("wt").b)
}

// rowOf is the frames of bodies one behind the other, and what is to be told of them.
func rowOf(l [][]byte) ([]byte, told) {
	var b []byte
	var want told
	for _, x := range l {
		f := frame.Put(x)
		want.bodies = append(want.bodies, api.Item{At: len(b), Size: len(f), B: x})
		b = append(b, f...)
	}
	want.end = len(b)
	return b, want
}

// without is what is to be told, if the frame at a place of the row is passed by.
func without(want told, i int) told {
	want.bodies = slices.Concat(want.bodies[:i], want.bodies[i+1:])
	want.passed++
	return want
}

// P3.2: bodies of all lengths and kinds are all found, in order.
func TestAllOfIt(t *testing.T) {
	b, want := rowOf(bodies())
	expectAll(t, "all kinds", b, want)
	slices.Reverse(want.bodies)
	var back [][]byte
	for _, it := range want.bodies {
		back = append(back, it.B)
	}
	b, want = rowOf(back)
	expectAll(t, "the other way round", b, want)
}

// P3.2: a great many frames are all found, and a great many spoilt ones all passed by.
func TestManyFrames(t *testing.T) {
	var l [][]byte
	for i := range 30000 {
		l = append(l, body(1+i%5, uint64(i)))
	}
	b, want := rowOf(l)
	expectAll(t, "many", b, want)
	for _, it := range want.bodies {
		b[it.At+4]++
	}
	expectAll(t, "many that are spoilt", b, told{passed: 30000, end: len(b)})
	expectNext(t, "many that are spoilt", b, 0, api.Item{}, len(b), api.OK)
	last := frame.Put([]byte("last"))
	it := api.Item{At: len(b), Size: 12, B: []byte("last")}
	expectNext(t, "one behind them", slices.Concat(b, last), 0, it, len(b)+12, api.OK)
	expectNext(t, "a torn one behind them", slices.Concat(b, last[:11]), 0, api.Item{}, len(b), api.ErrShort)
}

// turned is b with the bits of mask turned, its lowest one that at, counted from the first byte's lowest one on; those behind the end count for nothing.
func turned(b []byte, at int, mask uint32) []byte {
	b = bytes.Clone(b)
	wide := uint64(mask) << (at % 8)
	for i := at / 8; wide != 0 && i < len(b); i++ {
		b[i] ^= byte(wide)
		wide >>= 8
	}
	return b
}

// P3.2: with one frame that is spoilt anywhere behind its length, within 32 bits, all others are found, and it is not.
func TestOneIsSpoilt(t *testing.T) {
	b, want := rowOf([][]byte{body(5, 1), body(1, 2), frame.Put([]byte("in")), body(40, 4)})
	for i, it := range want.bodies {
		for at := 32; at < 8*it.Size; at++ {
			for _, mask := range []uint32{1, 3, 0x80000001, 0xffffffff, 0x82f63b79, 0x01010101} {
				f := turned(b[it.At:it.At+it.Size], at, mask)
				expectAll(t, "spoilt", slices.Concat(b[:it.At], f, b[it.At+it.Size:]), without(want, i))
			}
		}
	}
}

// P3.2: the same of long frames, at their ends and in their middle.
func TestOneLongOneIsSpoilt(t *testing.T) {
	b, want := rowOf(bodies())
	for i, it := range want.bodies {
		for _, at := range []int{4, 4 + it.Size/2, it.Size - 5, it.Size - 4, it.Size - 1} {
			at = min(at, it.Size-1)
			x := bytes.Clone(b)
			x[it.At+at] ^= 128
			expectAll(t, "spoilt", x, without(want, i))
		}
	}
}

// P3.2: behind its length a frame may be spoilt altogether: all others are found.
func TestOneIsSpoiltAltogether(t *testing.T) {
	b, want := rowOf([][]byte{body(5, 1), body(300, 2), body(7, 3), body(1, 4)})
	for i, it := range want.bodies {
		for _, c := range []byte{0, 255, 'x'} {
			x := bytes.Clone(b)
			copy(x[it.At+4:it.At+it.Size], bytes.Repeat([]byte{c}, it.Size))
			expectAll(t, "spoilt altogether", x, without(want, i))
		}
	}
}

// P3.2 asks for a length that is right: with one that isn't all ahead of it are found, and none behind it.
func TestOneLengthIsSpoilt(t *testing.T) {
	b, want := rowOf([][]byte{body(5, 1), body(1, 2), body(300, 3), body(7, 4)})
	for i, it := range want.bodies {
		for at := range 4 {
			for turn := 1; turn < 256; turn++ {
				x := bytes.Clone(b)
				x[it.At+at] ^= byte(turn)
				expectAll(t, "a spoilt length", x, told{bodies: want.bodies[:i], end: it.At, err: api.ErrCorrupt})
			}
		}
	}
}

// cutAt is what is to be told of whole frames, cut at a place.
func cutAt(want told, n int) told {
	cut := told{}
	for _, it := range want.bodies {
		if it.At+it.Size > n {
			break
		}
		cut.bodies = append(cut.bodies, it)
		cut.end = it.At + it.Size
	}
	if cut.end < n {
		cut.err = api.ErrShort
	}
	return cut
}

// P3.3: cut at each place: those that are whole are found, and no other one, nor in the spare room; where the torn one begins is told.
func TestTorn(t *testing.T) {
	b, want := rowOf([][]byte{body(5, 1), body(1, 2), frame.Put(frame.Put([]byte("in"))), body(300, 4), {0}, body(2, 5)})
	for n := range len(b) + 1 {
		expectAll(t, "torn, with room", b[:n], cutAt(want, n))
		expectAll(t, "torn, without room", bytes.Clone(b[:n]), cutAt(want, n))
	}
}

// P3.3: the longest frames, cut near their ends.
func TestTornLongFrames(t *testing.T) {
	b, want := rowOf(bodies())
	for _, it := range want.bodies {
		for _, n := range []int{0, 1, 3, 4, 5, it.Size / 2, it.Size - 4, it.Size - 1, it.Size} {
			expectAll(t, "torn", b[:it.At+n], cutAt(want, it.At+n))
		}
	}
}

// P3.3: a torn frame is short, not spoilt, whatever its body is; and a spoilt one ahead of it is passed by.
func TestTornAndSpoilt(t *testing.T) {
	l := lay("wsw")
	f := frame.Put(body(20, 9))
	f[10] ^= 1
	for n := 1; n < len(f); n++ {
		want := l.whole
		want.err = api.ErrShort
		b := slices.Concat(l.b, f[:n])
		expectAll(t, "torn and spoilt", b, want)
		expectNext(t, "torn and spoilt", b, len(l.b), api.Item{}, len(l.b), api.ErrShort)
	}
	want := l.whole
	want.passed, want.end = 2, len(l.b)+len(f)
	expectAll(t, "spoilt, but whole", slices.Concat(l.b, f), want)
}

// P3: what is handed in, and its spare room, is as it was.
func TestArgumentsStay(t *testing.T) {
	room := slices.Concat(lay("wsw").b, lay("wSt").b, body(50, 17))
	ahead := bytes.Clone(room)
	for n := range len(room) + 1 {
		scan.All(room[:n])
		for _, at := range []int{-1, 0, n / 2, n, n + 1} {
			scan.Next(room[:n], at)
		}
	}
	if !bytes.Equal(room, ahead) {
		t.Error("bytes have changed")
	}
}

// fill writes over a list's items, its spare room too.
func fill[E any](l []E, with E) {
	l = l[:cap(l)]
	for i := range l {
		l[i] = with
	}
}

// P3: an answer is new memory, its spare room too, and no two bodies share any.
func TestAnswersAreNew(t *testing.T) {
	in, want := rowOf([][]byte{body(5, 1), body(1, 2), body(30, 3)})
	ahead := bytes.Clone(in)
	one, two := all(in), all(in)
	it, _, _ := scan.Next(in, 0)
	for i, x := range one.bodies {
		fill(x.B, 7)
		for j, y := range one.bodies[i+1:] {
			if !sameItem(y, want.bodies[i+1+j]) {
				t.Error("bodies share memory")
			}
		}
	}
	fill(one.bodies, api.Item{At: 9})
	if !bytes.Equal(in, ahead) {
		t.Error("an answer is the argument's memory")
	}
	clear(in)
	if !same(two, want) || !sameItem(it, want.bodies[0]) {
		t.Error("an answer has changed")
	}
	fill(it.B, 9)
	if !same(two, want) {
		t.Error("two answers share memory")
	}
}

// P3: an answer hangs on the arguments alone: not on other calls, and not on spare room.
func TestAnswersHangOnArgumentsAlone(t *testing.T) {
	l, other := lay("wswt"), lay("sswc")
	for range 3 {
		expectAll(t, "again", l.b, l.whole)
		scan.All(other.b)
		expectNext(t, "again", l.b, 0, l.whole.bodies[0], l.at[1], api.OK)
		scan.Next(other.b, len(other.b))
	}
	for _, behind := range [][]byte{lay("w").b, make([]byte, 100), body(100, 1)} {
		room := slices.Concat(l.b, behind)[:len(l.b)]
		expectAll(t, "with spare room", room, l.whole)
		expectNext(t, "with spare room", room, l.at[3], api.Item{}, l.at[3], api.ErrShort)
	}
}

// P1: each call ends, whatever bytes it is given, at each place of them and on both sides.
func TestAnyBytes(t *testing.T) {
	for seed := range uint64(4000) {
		b := body(int(seed%30), seed)
		if len(b) >= 4 && seed%3 == 0 { // lengths that are right, but most of them of frames that are not there
			n := byte(seed % 40)
			b[0], b[1], b[2], b[3] = 0, n, 255, ^n
		}
		l := all(b)
		if l.end > len(b) || l.end < len(b) && l.err == api.OK || l.end == len(b) && l.err != api.OK {
			t.Errorf("% x: to %d, error %d", b, l.end, int(l.err))
		}
		for at := -2; at <= len(b)+2; at++ {
			it, end, err := scan.Next(b, at)
			if err != api.OK && (it.At != 0 || it.Size != 0 || it.B != nil) || err != api.ErrArg && (end < at || end > len(b)) {
				t.Errorf("% x, from %d on: %v, to %d, error %d", b, at, it, end, int(err))
			}
		}
	}
}
