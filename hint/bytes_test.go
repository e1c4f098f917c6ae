package hint_test

import (
	"bytes"
	"fmt"
	"hash/crc32"
	"math"
	"slices"
	"strings"
	"testing"

	"souterrain/api"
	"souterrain/hint"
)

// high is a number in so many bytes, the highest first.
func high(n int64, size int) []byte {
	b := make([]byte, size)
	for i := range size {
		b[size-1-i] = byte(n)
		n >>= 8
	}
	return b
}

// summed is the sum of bytes, by another program.
func summed(b []byte) uint32 { return crc32.Checksum(b, crc32.MakeTable(crc32.Castagnoli)) }

// framed is the bytes that the document has a body's frame have.
func framed(b ...[]byte) []byte {
	all := slices.Concat(b...)
	n := len(all)
	f := slices.Concat([]byte{byte(n >> 8), byte(n), 255 - byte(n>>8), 255 - byte(n)}, all)
	s := summed(f)
	return append(f, byte(s), byte(s>>8), byte(s>>16), byte(s>>24))
}

// body is the bytes that stand in a hint's frame, by the document's words, be it right or not.
func body(h api.Hint) []byte {
	return slices.Concat([]byte{byte(h.Kind)}, high(int64(h.At), 4), high(int64(h.Size), 2), []byte(h.Key))
}

// ahead is the frames of all hints.
func ahead(l []api.Hint) []byte {
	var b []byte
	for _, h := range l {
		b = append(b, framed(body(h))...)
	}
	return b
}

// ended is frames with what stands behind hints: how many there are, how long the segment is, and the frames' sum.
func ended(frames []byte, count int, size int) []byte {
	return slices.Concat(frames, framed([]byte{7}, high(int64(count), 4), high(int64(size), 4), high(int64(summed(frames)), 4)))
}

// written is the bytes of hints, of a segment that is size long, by the document's words.
func written(l []api.Hint, size int) []byte { return ended(ahead(l), len(l), size) }

// lengths are those that a segment may have: the least and the greatest, and such at which bytes turn over.
func lengths() []int {
	return []int{0, 1, 13, 115, 255, 256, 65535, 65536, 1<<24 - 1, 1 << 24, 0x01020304, 1<<30 - 1, 1 << 30}
}

// noLengths are those that none has.
func noLengths() []int {
	return []int{-1, -2, -1 << 30, 1<<30 + 1, 1<<30 + 2, 1 << 31, 1<<32 - 1, 1 << 32, 1<<32 + 13, 1<<32 + 1<<30, 1<<40 + 115, -1<<32 + 115, math.MinInt, math.MinInt + 13, math.MaxInt}
}

// got expects these bytes to be hints', of a segment that is size long.
func got(t *testing.T, what string, b []byte, size int, want []api.Hint) {
	t.Helper()
	if l, is := hint.Get(b, size); !is || !slices.Equal(l, want) {
		t.Errorf("%s, %d bytes, of %d: %s, %t; want %s", what, len(b), size, brief(l), is, brief(want))
	}
}

// refused expects these bytes to be no hints', of a segment that is size long.
func refused(t *testing.T, what string, b []byte, size int) {
	t.Helper()
	if l, is := hint.Get(b, size); is || len(l) != 0 {
		t.Errorf("%s, %d bytes, of %d: %s, %t; want none", what, len(b), size, brief(l), is)
	}
}

// P11.1, K2: bytes that are written out by hand; the sums are another program's.
func TestBytesByHand(t *testing.T) {
	sums := func(b []byte) []byte {
		s := summed(b)
		return []byte{byte(s), byte(s >> 8), byte(s >> 16), byte(s >> 24)}
	}
	first := []byte("\x00\x08\xff\xf7\x03\x00\x00\x00\x2b\x00\x0ca")
	first = append(first, sums(first)...)
	second := []byte("\x00\x09\xff\xf6\x02\x01\x02\x03\x04\x20\x08bc")
	second = append(second, sums(second)...)
	both := slices.Concat(first, second)
	s := summed(both)
	last := append([]byte("\x00\x0d\xff\xf2\x07\x00\x00\x00\x02\x01\x00\x00\x73"), byte(s>>24), byte(s>>16), byte(s>>8), byte(s))
	last = append(last, sums(last)...)
	l := []api.Hint{inline("a", 0x2b, 12), root("bc", 0x01020304, 8200)}
	want := slices.Concat(both, last)
	if b := hint.Put(l, 0x01000073); !bytes.Equal(b, want) || len(b) != 16+17+21 {
		t.Errorf("% x; want % x", b, want)
	}
	got(t, "by hand", want, 0x01000073, l)
	// Of no frames the sum is 0.
	none := []byte("\x00\x0d\xff\xf2\x07\x00\x00\x00\x00\x00\x00\x00\x0d\x00\x00\x00\x00")
	none = append(none, sums(none)...)
	if b := hint.Put(nil, 13); !bytes.Equal(b, none) {
		t.Errorf("% x; want % x", b, none)
	}
	got(t, "none, by hand", none, 13, nil)
}

// P11.1, K2, and P11.2: right ones have the bytes that the document has them have, of each length, and are got of these.
func TestThereAndBack(t *testing.T) {
	for _, l := range rights() {
		for _, size := range lengths() {
			b := hint.Put(l, size)
			if want := written(l, size); !bytes.Equal(b, want) {
				t.Errorf("%s of %d: % .60x; want % .60x", brief(l), size, b, want)
			}
			got(t, "there and back", b, size, l)
		}
	}
}

// P11.1, K2, and P11.2: more hints than two bytes can count.
func TestVeryManyHints(t *testing.T) {
	for _, n := range []int{65536, 65537} {
		l := many(n)
		b := hint.Put(l, 5)
		if !bytes.Equal(b, written(l, 5)) {
			t.Errorf("%d hints have other bytes", n)
		}
		got(t, "very many", b, 5, l)
		refused(t, "cut", b[:len(b)-21], 5)
	}
}

// P11.1, K2, P1 and P2: what is not right has no bytes, nor does what it would have tell any.
func TestPutOfWrongOnes(t *testing.T) {
	for _, l := range wrongs() {
		for _, size := range []int{0, 5, 1 << 30} {
			if b := hint.Put(l, size); len(b) != 0 {
				t.Errorf("%s: % .60x", brief(l), b)
			}
		}
		if writable(l) {
			refused(t, brief(l), written(l, 5), 5)
		}
	}
	for _, l := range rights() {
		for _, size := range noLengths() {
			if b := hint.Put(l, size); len(b) != 0 {
				t.Errorf("%s of %d: % .60x", brief(l), size, b)
			}
		}
	}
}

// writable is whether all numbers fit in their bytes, and all bodies in frames: of others the lowest bytes may be right ones.
func writable(l []api.Hint) bool {
	is := true
	for _, h := range l {
		is = is && h.Kind>>8 == 0 && h.At>>32 == 0 && h.Size>>16 == 0 && len(h.Key)+7 <= 8192
	}
	return is
}

// P11.2: what was put of one length is got of no other one.
func TestOtherLengths(t *testing.T) {
	for _, l := range rights()[:20] {
		for _, size := range lengths() {
			b := hint.Put(l, size)
			for _, other := range slices.Concat(lengths(), noLengths(), []int{size - 1, size + 1, size ^ 1<<8, size ^ 1<<16, size ^ 1<<29, size + 1<<32, size - 1<<32, size | math.MinInt, -size}) {
				if other != size {
					refused(t, fmt.Sprint("put of ", size), b, other)
				}
			}
		}
	}
	// Bytes that tell a length which none has are no hints', of that length neither.
	for _, l := range [][]api.Hint{nil, {tomb("a", 13, 10)}, {inline("a", 13, 12), root("b", 25, 40)}} {
		for _, size := range noLengths() {
			refused(t, "of a length that is none", written(l, size), size)
			refused(t, "of its lowest bytes", written(l, size|1<<31), int(uint32(size|1<<31)))
		}
	}
}

// P11.3: bytes that are cut anywhere are none, nor are those from anywhere on; and more behind them, or ahead, is none.
func TestCut(t *testing.T) {
	refused(t, "nil", nil, 0)
	refused(t, "nothing", []byte{}, 0)
	for _, l := range rights() {
		b := written(l, 115)
		for n := range b {
			if n < 500 || n%61 == 0 || n > len(b)-50 {
				refused(t, "cut", b[:n], 115)
				refused(t, "cut, without room", b[:n:n], 115)
			}
		}
		for n := 1; n < 40; n++ {
			refused(t, "zeros behind it", slices.Concat(b, make([]byte, n)), 115)
			refused(t, "noise behind it", slices.Concat(b, noise(n, 5)), 115)
			refused(t, "its beginning behind it", slices.Concat(b, b[:min(n, len(b))]), 115)
			refused(t, "zeros ahead of it", slices.Concat(make([]byte, n), b), 115)
			if n < len(b) {
				refused(t, "from somewhere on", b[n:], 115)
			}
		}
		refused(t, "twice", slices.Concat(b, b), 115)
		refused(t, "none of no hints, and it", slices.Concat(written(nil, 115), b), 115)
		refused(t, "a frame behind it", slices.Concat(b, framed([]byte("x"))), 115)
		refused(t, "a hint behind it", slices.Concat(b, framed(body(tomb("zz", 13, 10)))), 115)
		refused(t, "all frames alone", ahead(l), 115)
		refused(t, "framed", framed(b[:min(len(b), 8192)]), 115)
	}
}

// P11.1, K2: in a row of frames that are right each one that is left out, told twice, swapped with the next one, or spoilt and then summed over, is found.
func TestRowsOfFrames(t *testing.T) {
	l := []api.Hint{tomb("a", 13, 10), inline("b", 23, 12), root("c", 35, 40), tomb("d", 75, 10)}
	for i := range l {
		less := slices.Delete(slices.Clone(l), i, i+1)
		got(t, "less, with its own end", written(less, 85), 85, less)
		refused(t, "one less", ended(ahead(less), 4, 85), 85)
		refused(t, "one less, with the end of all", slices.Concat(ahead(less), written(l, 85)[len(ahead(l)):]), 85)
		refused(t, "one more", ended(ahead(l), 3, 85), 85)
		twice := slices.Insert(slices.Clone(l), i, l[i])
		refused(t, "one twice", written(twice, 85), 85)
		swapped := slices.Clone(l)
		swapped[i], swapped[(i+1)%4] = swapped[(i+1)%4], swapped[i]
		refused(t, "two swapped", written(swapped, 85), 85)
		frames := ahead(l)
		spoilt := slices.Concat(ahead(l[:i]), framed(body(tomb("z", 1, 9))), frames[len(ahead(l[:i])):])
		spoilt[len(ahead(l[:i]))+9] ^= 1
		refused(t, "a spoilt one passed by", ended(spoilt, 4, 85), 85)
		refused(t, "a spoilt one passed by, and counted", ended(spoilt, 5, 85), 85)
		end := slices.Concat(ahead(l[:i]), ended(nil, i, 85), ahead(l[i:]))
		refused(t, "an end in the middle", ended(end, 4, 85), 85)
		refused(t, "an end in the middle, and counted", ended(end, 5, 85), 85)
	}
	late := slices.Concat(written(l, 85), framed(body(tomb("z", 1, 9))))
	late[len(late)-1] ^= 1
	refused(t, "a spoilt one behind the end", late, 85)
	spoilt := framed([]byte("x"))
	spoilt[4] ^= 1
	refused(t, "nothing but spoilt ones", slices.Repeat(spoilt, 3), 85)
	refused(t, "a spoilt one, and an end", ended(spoilt, 0, 85), 85)
	refused(t, "a spoilt one, and an end that counts it", ended(spoilt, 1, 85), 85)
}

// P11.1, K2: bodies of each first byte, and such as end too early, or go on too long.
func TestOddBodies(t *testing.T) {
	for first := range 256 {
		b := body(tomb("m", 13, 10))
		b[0] = byte(first)
		row := ended(slices.Concat(framed(body(tomb("a", 1, 9))), framed(b)), 2, 5)
		if first >= 2 && first <= 4 {
			got(t, "a kind", row, 5, []api.Hint{tomb("a", 1, 9), {Kind: first, Key: "m", At: 13, Size: 10}})
		} else {
			refused(t, fmt.Sprint("first byte ", first), row, 5)
		}
		end := slices.Concat([]byte{byte(first)}, make([]byte, 4), high(5, 4), make([]byte, 4))
		if first != 7 {
			refused(t, fmt.Sprint("first byte of the end ", first), framed(end), 5)
		}
	}
	for n := 1; n < 8192; n++ {
		if n > 300 && n%97 != 0 && n < 8180 {
			continue
		}
		b := slices.Concat(body(tomb("", 13, 10)), bytes.Repeat([]byte("m"), 8192))[:n]
		if n >= 8 && n <= 71 {
			got(t, "a body", ended(framed(b), 1, 5), 5, []api.Hint{tomb(strings.Repeat("m", n-7), 13, 10)})
		} else {
			refused(t, fmt.Sprint("a body of ", n), ended(framed(b), 1, 5), 5)
			refused(t, fmt.Sprint("a body of ", n, ", not counted"), ended(framed(b), 0, 5), 5)
		}
		end := slices.Concat([]byte{7}, make([]byte, 4), high(5, 4), make([]byte, 8192))[:n]
		if n != 13 {
			refused(t, fmt.Sprint("an end of ", n), framed(end), 5)
		}
	}
}

// P11.1, K2: an end, in a frame that is right, of which each byte in turn is another one; and sums that are told in another order, or of something else.
func TestOddEnds(t *testing.T) {
	for _, l := range [][]api.Hint{nil, {tomb("a", 13, 10)}, {inline("a", 13, 12), root("b", 25, 40)}} {
		frames := ahead(l)
		end := slices.Concat([]byte{7}, high(int64(len(l)), 4), high(115, 4), high(int64(summed(frames)), 4))
		got(t, "as it was", slices.Concat(frames, framed(end)), 115, l)
		for i := range end {
			for turn := 1; turn < 256; turn++ {
				end[i] ^= byte(turn)
				refused(t, fmt.Sprint("byte ", i, " of the end"), slices.Concat(frames, framed(end)), 115)
				end[i] ^= byte(turn)
			}
		}
		refused(t, "more in the end", slices.Concat(frames, framed(end, []byte{0})), 115)
		if len(l) > 0 {
			end := end[:9:9]
			s := high(int64(summed(frames)), 4)
			reversed := slices.Clone(s)
			slices.Reverse(reversed)
			for _, other := range [][]byte{reversed, {0, 0, 0, 0}, high(int64(summed(ahead(l[:len(l)-1]))), 4), high(int64(summed(slices.Concat(frames, end))), 4), high(int64(crc32.ChecksumIEEE(frames)), 4), high(int64(^summed(frames)), 4)} {
				refused(t, "another sum", slices.Concat(frames, framed(end, other)), 115)
			}
		}
	}
}

// P11.1, K2, and P11.2: of any bytes what is got is right, and has these bytes.
func TestAnyBytes(t *testing.T) {
	c := chance(5)
	taken := 0
	for seed := range uint64(60000) {
		var l []api.Hint
		for key := c.below(3); c.below(4) > 0; key += c.below(3) {
			l = append(l, api.Hint{Kind: 2 + c.below(3), Key: string(rune('a' + key%26)), At: c.below(1<<30 + 1), Size: 9 + c.below(8192)})
		}
		size, frames := c.below(1<<30+1), []byte(nil)
		for _, h := range l {
			b := body(h)
			if c.below(9) == 0 {
				b[c.below(len(b))] ^= byte(1 << c.below(8))
			}
			frames = append(frames, framed(b)...)
		}
		b := ended(frames, len(l)+c.below(5)/4, size)
		switch c.below(20) {
		case 0:
			b[c.below(len(b))] ^= byte(1 + c.below(255))
		case 1:
			b = noise(c.below(90), seed)
		case 2:
			b = framed(noise(1+c.below(90), seed))
		}
		back, is := hint.Get(b, size)
		if is {
			taken++
			if !plainRight(back) || !hint.Right(back) || !bytes.Equal(b, written(back, size)) || !bytes.Equal(b, hint.Put(back, size)) {
				t.Fatalf("% x: %v", b, back)
			}
		} else if len(back) != 0 {
			t.Fatalf("% x: %v, beside false", b, back)
		}
	}
	if taken < 10000 {
		t.Error("only", taken)
	}
}

// turned is b with the bits of mask turned, its lowest one that at, counted from the first byte's lowest one on; those behind the end count for nothing.
func turned(b []byte, at int, mask uint32) []byte {
	b = bytes.Clone(b)
	for i := range 32 {
		if mask>>i&1 == 1 && at+i < 8*len(b) {
			b[(at+i)/8] ^= 1 << ((at + i) % 8)
		}
	}
	return b
}

// masks are patterns of bits that turn, the lowest one always among them.
func masks() []uint32 {
	l := []uint32{1, 3, 0xff, 0x80000001, 0xffffffff, 0x82f63b79, 0x05ec76f1, 0x11edc6f5, 0x1edc6f41, 0x55555555, 0xff0000ff, 0x01010101, 0x00010001, 0x7fffffff}
	for i := range uint64(30) {
		r := noise(4, i)
		l = append(l, uint32(r[0])<<24|uint32(r[1])<<16|uint32(r[2])<<8|uint32(r[3])|1)
	}
	for mask := uint32(5); mask < 1<<7; mask += 2 {
		l = append(l, mask)
	}
	return l
}

// P11.3: bits that have turned within 32 of each place, across all parts of hints' bytes and at both of their ends.
func TestSpoilt(t *testing.T) {
	for _, l := range [][]api.Hint{nil, {tomb("a", 13, 10)}, {inline("a", 13, 12), root("b", 25, 40)}, {tomb("a", 13, 10), inline("aa", 23, 12), root("ab", 35, 40)}} {
		b := hint.Put(l, 115)
		for at := range 8 * len(b) {
			for _, mask := range masks() {
				refused(t, fmt.Sprintf("bits of %x from %d on", mask, at), turned(b, at, mask), 115)
			}
		}
	}
}

// P11.3: many hints, and long ones, at some of their places.
func TestSpoiltLongOnes(t *testing.T) {
	c := chance(9)
	for _, l := range rights() {
		b := hint.Put(l, 1<<30)
		for range 200 {
			at := c.below(8 * len(b))
			refused(t, fmt.Sprint("bits from ", at, " on"), turned(b, at, uint32(c.below(1<<31))<<1|1), 1<<30)
		}
	}
}

// P11.3: a length that has turned alike in both of its copies, so that it is another frame's, up to the end of another one, or into a key that looks like a frame's end.
func TestSpoiltLengthsThatAgree(t *testing.T) {
	inner := string(framed([]byte("0123456789")))
	l := []api.Hint{tomb("a", 13, 10), inline("b"+inner+inner, 23, 50), root("c", 73, 40)}
	b := hint.Put(l, 115)
	frames := []int{0, len(ahead(l[:1])), len(ahead(l[:2])), len(ahead(l))}
	for _, from := range frames {
		for turn := uint32(1); turn < 65536; turn++ {
			refused(t, fmt.Sprintf("%x from %d on", turn, from), turned(b, 8*from, turn|turn<<16), 115)
		}
	}
}

// P3: what is handed in is as it was, its spare room too.
func TestBytesStay(t *testing.T) {
	for _, l := range rights() {
		b := append(written(l, 115), noise(60, 3)...)
		was := bytes.Clone(b)
		n := len(b) - 60
		hint.Get(b[:n], 115)
		hint.Get(b[:n], 116)
		hint.Get(b[:n-1], 115)
		hint.Get(b, 115)
		if !bytes.Equal(b, was) {
			t.Errorf("%s: bytes have changed", brief(l))
		}
	}
}

// P3: an answer is new memory, its spare room too: nothing that is done to it is seen elsewhere, nor the other way round.
func TestAnswersAreNew(t *testing.T) {
	for _, l := range rights() {
		want := slices.Clone(l)
		b := written(l, 115)
		one, _ := hint.Get(b, 115)
		two, _ := hint.Get(b, 115)
		put, again := hint.Put(two, 115), hint.Put(two, 115)
		clear(one[:cap(one)])
		clear(put[:cap(put)])
		if !bytes.Equal(b, written(want, 115)) || !bytes.Equal(again, b) || !slices.Equal(two, want) {
			t.Errorf("%s: an answer is not new", brief(want))
		}
		clear(b)
		if !slices.Equal(two, want) {
			t.Errorf("%s: an answer hangs on its argument", brief(want))
		}
		b = hint.Put(two, 115)
		clear(two)
		if !bytes.Equal(b, written(want, 115)) {
			t.Errorf("%s: bytes hang on the hints", brief(want))
		}
	}
}

// P3: an answer hangs on the arguments alone: not on other calls, nor on spare room.
func TestAnswersHangOnArgumentsAlone(t *testing.T) {
	all := rights()
	for range 2 {
		for i, l := range all {
			other := all[len(all)-1-i]
			hint.Put(other, 7)
			hint.Get(written(other, 7), 7)
			hint.Get(written(other, 7)[1:], 7)
			b := written(l, 115)
			if !bytes.Equal(hint.Put(l, 115), b) {
				t.Errorf("%s: other bytes", brief(l))
			}
			for _, behind := range [][]byte{make([]byte, 30), noise(30, 1), b, framed([]byte("x"))} {
				got(t, "with spare room", slices.Concat(b, behind)[:len(b)], 115, l)
				refused(t, "cut, with spare room", slices.Concat(b, behind)[:len(b)-1], 115)
			}
		}
	}
}
