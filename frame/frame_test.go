package frame_test

import (
	"bytes"
	"hash/crc32"
	"math"
	"slices"
	"testing"

	"souterrain/api"
	"souterrain/frame"
)

// body is n bytes that look like no pattern, but are the same each time; unlike seeds give unlike bytes.
func body(n int, seed uint64) []byte {
	b := make([]byte, n)
	for i := range b {
		seed = seed*6364136223846793005 + 1442695040888963407
		b[i] = byte(seed >> 56)
	}
	return b
}

// framed is what the document has a frame be, worked out by another program's sum.
func framed(b []byte) []byte {
	n := len(b)
	f := append([]byte{byte(n / 256), byte(n % 256), byte(n/256) ^ 255, byte(n%256) ^ 255}, b...)
	s := crc32.Checksum(f, crc32.MakeTable(crc32.Castagnoli))
	for range 4 {
		f = append(f, byte(s%256))
		s /= 256
	}
	return f
}

// lengths are bodies' lengths: all short ones, those at which a byte of the length turns over, and the longest ones.
func lengths() []int {
	all := []int{511, 512, 513, 4095, 4096, 4097, 7935, 7936, 8191, 8192}
	for n := 1; n <= 300; n++ {
		all = append(all, n)
	}
	return all
}

// expect tells what First of b is, if it isn't what is wanted.
func expect(t *testing.T, what string, b []byte, want []byte, size int, err api.Errno) {
	t.Helper()
	got, n, e := frame.First(b)
	if !bytes.Equal(got, want) || n != size || e != err {
		t.Errorf("%s: %d bytes, %d, %d; want %d bytes, %d, %d", what, len(got), n, int(e), len(want), size, int(err))
	}
}

// P2.1, B1: each length that may be, those on both sides of them, and far ones.
func TestSize(t *testing.T) {
	for n := -300; n <= 70000; n++ {
		want := 0
		if 1 <= n && n <= 8192 {
			want = n + 8
		}
		if got := frame.Size(n); got != want {
			t.Errorf("%d: %d, want %d", n, got, want)
		}
	}
	for _, n := range []int{math.MinInt, math.MinInt + 1, math.MinInt32, -65536, 1 << 16, 1<<16 + 1, 1 << 31, 1<<32 + 1, math.MaxInt - 8, math.MaxInt} {
		if got := frame.Size(n); got != 0 {
			t.Errorf("%d: %d, want 0", n, got)
		}
	}
}

// P2.1, B1: frames whose sums were worked out bit by bit, apart from any table.
func TestPutExamples(t *testing.T) {
	for _, c := range []struct{ body, want string }{
		{"a", "\x00\x01\xff\xfea\xb0\x5b\xde\x2a"},
		{"\x00", "\x00\x01\xff\xfe\x00\xd1\x4b\x73\xb9"},
		{"123456789", "\x00\x09\xff\xf6123456789\x06\x01\xb9\x0b"},
	} {
		if got := frame.Put([]byte(c.body)); string(got) != c.want {
			t.Errorf("%q: % x, want % x", c.body, got, c.want)
		}
	}
}

// P2.1, B1: the frame of bodies of many lengths, of any bytes.
func TestPut(t *testing.T) {
	for _, n := range lengths() {
		for _, b := range [][]byte{body(n, uint64(n)), make([]byte, n), bytes.Repeat([]byte{255}, n)} {
			got := frame.Put(b)
			if want := framed(b); !bytes.Equal(got, want) {
				t.Fatalf("%d bytes: % x, want % x", n, got, want)
			}
			if len(got) != frame.Size(n) {
				t.Errorf("%d bytes: the frame has %d, Size tells %d", n, len(got), frame.Size(n))
			}
		}
	}
}

// P2.1, B1; P1: what is no body has no frame.
func TestPutOfNoBody(t *testing.T) {
	for _, b := range [][]byte{nil, {}, make([]byte, 0, 100), make([]byte, 8193), make([]byte, 8194), make([]byte, 16384), make([]byte, 65535), make([]byte, 65536), make([]byte, 65537), make([]byte, 1<<20)} {
		if got := frame.Put(b); len(got) != 0 {
			t.Errorf("%d bytes have a frame of %d", len(b), len(got))
		}
	}
}

// P2.1, B2: fewer than four bytes are short, whatever they are.
func TestFirstOfFewBytes(t *testing.T) {
	expect(t, "nil", nil, nil, 0, api.ErrShort)
	for _, b := range [][]byte{{0, 0, 0, 0, 0}, {255, 255, 255, 255, 255}, {0, 1, 255, 254, 97}, {32, 1, 223, 254, 0}, {0, 0, 255, 255, 0}} {
		for n := range 4 {
			expect(t, "few bytes", b[:n], nil, 0, api.ErrShort)
		}
	}
}

// P2.1, B2: each length that two bytes can tell, with its copy, and nothing behind it, or plenty.
func TestFirstOfEachLength(t *testing.T) {
	plenty := make([]byte, 9000)
	for n := range 65536 {
		lens := []byte{byte(n >> 8), byte(n), ^byte(n >> 8), ^byte(n)}
		copy(plenty, lens)
		if 1 <= n && n <= 8192 {
			expect(t, "a body's length, alone", lens, nil, 0, api.ErrShort)
			continue
		}
		expect(t, "no body's length, alone", lens, nil, 0, api.ErrCorrupt)
		expect(t, "no body's length", plenty, nil, 0, api.ErrCorrupt)
	}
}

// P2.1, B2: a length whose copy is not right is corrupt, however few bytes there are, and whatever is right behind it.
func TestFirstOfWrongCopies(t *testing.T) {
	for _, n := range []int{1, 2, 255, 256, 257, 8191, 8192} {
		f := framed(body(n, 1))
		for at := range 4 {
			for turn := 1; turn < 256; turn++ {
				b := bytes.Clone(f)
				b[at] ^= byte(turn)
				expect(t, "alone", b[:4], nil, 0, api.ErrCorrupt)
				expect(t, "whole", b, nil, 0, api.ErrCorrupt)
			}
		}
		plain := []byte{byte(n >> 8), byte(n), byte(n >> 8), byte(n)}
		expect(t, "a copy that was not turned", plain, nil, 0, api.ErrCorrupt)
		swapped := []byte{byte(n >> 8), byte(n), ^byte(n), ^byte(n >> 8)}
		if swapped[2] != swapped[3] {
			expect(t, "a copy the other way round", swapped, nil, 0, api.ErrCorrupt)
		}
	}
}

// P2.1, B2: a frame whose sum is of the right bytes, but whose copy of the length is not right, is corrupt, and tells no length.
func TestFirstOfWrongCopyUnderARightSum(t *testing.T) {
	for at := range 4 {
		for turn := 1; turn < 256; turn++ {
			b := framed([]byte("abc"))[:7]
			b[at] ^= byte(turn)
			s := crc32.Checksum(b, crc32.MakeTable(crc32.Castagnoli))
			b = append(b, byte(s), byte(s>>8), byte(s>>16), byte(s>>24))
			expect(t, "a right sum", b, nil, 0, api.ErrCorrupt)
		}
	}
}

// P2.1, B2: a frame that is not there whole is short, and tells no length: in its spare room nothing counts.
func TestFirstOfTornFrames(t *testing.T) {
	for _, n := range []int{1, 2, 3, 5, 255, 256, 300, 8191, 8192} {
		f := framed(body(n, 2))
		wrong := bytes.Clone(f)
		wrong[4]++
		for i := range f {
			expect(t, "a torn frame", f[:i], nil, 0, api.ErrShort)
			expect(t, "a torn frame, without room", f[:i:i], nil, 0, api.ErrShort)
			expect(t, "a torn frame that is spoilt", wrong[:i], nil, 0, api.ErrShort)
		}
	}
}

// P2.1, B2: a frame whose sum is not right is corrupt, but tells how long it is.
func TestFirstOfWrongSums(t *testing.T) {
	for _, n := range lengths() {
		f := framed(body(n, 3))
		size := n + 8
		for _, at := range []int{4, 4 + n/2, 3 + n, 4 + n, 5 + n, 6 + n, 7 + n} {
			for _, turn := range []byte{1, 128, 255} {
				b := bytes.Clone(f)
				b[at] ^= turn
				expect(t, "alone", b, nil, size, api.ErrCorrupt)
				expect(t, "with bytes behind", append(b, f...), nil, size, api.ErrCorrupt)
			}
		}
		for _, sum := range [][]byte{{0, 0, 0, 0}, {255, 255, 255, 255}, {f[n+7], f[n+6], f[n+5], f[n+4]}} {
			if !bytes.Equal(sum, f[n+4:]) {
				expect(t, "another sum", append(bytes.Clone(f[:n+4]), sum...), nil, size, api.ErrCorrupt)
			}
		}
	}
}

// P2.1, B2: the sum is of the lengths and the body: neither of the body alone, nor of one begun or ended otherwise.
func TestFirstOfOtherSums(t *testing.T) {
	lens := []byte{0, 3, 255, 252}
	whole := append(bytes.Clone(lens), "abc"...)
	castagnoli := crc32.MakeTable(crc32.Castagnoli)
	for i, s := range []uint32{
		crc32.Checksum([]byte("abc"), castagnoli),
		crc32.Checksum(whole[2:], castagnoli),
		crc32.ChecksumIEEE(whole),
		^crc32.Checksum(whole, castagnoli),
		crc32.Update(0xffffffff, castagnoli, whole),
	} {
		b := append(bytes.Clone(whole), byte(s), byte(s>>8), byte(s>>16), byte(s>>24))
		if got, n, e := frame.First(b); len(got) != 0 || n != 11 || e != api.ErrCorrupt {
			t.Errorf("sum %d: %q, %d, %d", i, got, n, int(e))
		}
	}
}

// P2.2: what is in a frame is got of it, with nothing behind it, and with anything.
func TestThereAndBack(t *testing.T) {
	for _, n := range lengths() {
		for _, b := range [][]byte{body(n, uint64(n)), make([]byte, n), bytes.Repeat([]byte{255}, n)} {
			f := frame.Put(b)
			expect(t, "nothing behind", f, b, n+8, api.OK)
			for _, behind := range [][]byte{{0}, {255, 255, 255}, f, f[:len(f)-1], make([]byte, 20000)} {
				expect(t, "something behind", slices.Concat(f, behind), b, n+8, api.OK)
			}
		}
	}
}

// P2.2: a frame can be a body, too.
func TestFramesInFrames(t *testing.T) {
	f := []byte("a")
	for range 1000 {
		f = frame.Put(f)
	}
	for f = frame.Put(f); len(f) > 9; {
		b, n, e := frame.First(f)
		if e != api.OK || n != len(f) || len(b) != len(f)-8 {
			t.Fatalf("of %d bytes: %d bytes, %d, %d", len(f), len(b), n, int(e))
		}
		f = b
	}
	if !bytes.Equal(f, framed([]byte("a"))) {
		t.Errorf("% x", f)
	}
}

// P2.2: what is got of any bytes has that frame; what isn't has an error, and no body.
func TestAnyBytes(t *testing.T) {
	found := 0
	for seed := range uint64(20000) {
		b := body(int(seed%40), seed)
		if seed%2 == 0 && len(b) >= 9 { // lengths that are right let more be got
			n := len(b)%(len(b)-8) + 1
			copy(b, framed(b[4 : 4+n])[:4])
			if seed%4 == 0 {
				copy(b, framed(b[4:4+n]))
			}
		}
		got, n, e := frame.First(b)
		if e == api.OK {
			found++
			if f := frame.Put(got); n != len(f) || !bytes.Equal(f, b[:n]) {
				t.Errorf("% x: got % x, whose frame is % x", b, got, f)
			}
		} else if len(got) != 0 || n != 0 && (e != api.ErrCorrupt || n > len(b) || n != int(b[0])<<8+int(b[1])+8) {
			t.Errorf("% x: % x, %d, %d", b, got, n, int(e))
		}
	}
	if found < 1000 {
		t.Errorf("only %d were frames", found)
	}
}

// turned is b with the bits of mask turned, its lowest one that at, counted from the first byte's lowest one on.
func turned(b []byte, at int, mask uint32) []byte {
	b = bytes.Clone(b)
	wide := uint64(mask) << (at % 8)
	for i := at / 8; wide != 0; i++ {
		b[i] ^= byte(wide)
		wide >>= 8
	}
	return b
}

// spoils tells, if a frame in which the bits of mask have turned is got as one of its length; behind the length it must be corrupt.
func spoils(t *testing.T, f []byte, at int, mask uint32) {
	t.Helper()
	x := turned(f, at, mask)
	got, n, e := frame.First(x)
	if e == api.OK && n == len(f) || at >= 32 && (len(got) != 0 || n != len(f) || e != api.ErrCorrupt) {
		t.Fatalf("%d bytes, bits of %x from %d on: %d bytes, %d, %d", len(f), mask, at, len(got), n, int(e))
	}
	if got, n, e = frame.First(append(x, f...)); e == api.OK && n == len(f) {
		t.Fatalf("%d bytes and as many, bits of %x from %d on: %d bytes, %d, %d", len(f), mask, at, len(got), n, int(e))
	}
}

// P2.3: each pattern of up to eight bits, at each place of a frame.
func TestSpoiltByFewBits(t *testing.T) {
	for _, n := range []int{1, 2, 4, 9} {
		f := frame.Put(body(n, 11))
		for at := range 8 * len(f) {
			width := min(8, 8*len(f)-at)
			for mask := uint32(1); mask < 1<<width; mask += 2 {
				spoils(t, f, at, mask)
			}
		}
	}
}

// P2.3: patterns of up to 32 bits, at each place: of the lengths, of the body, of the sum, and across their ends.
func TestSpoiltByManyBits(t *testing.T) {
	masks := []uint32{0xffffffff, 0x80000001, 0x82f63b79, 0x05ec76f1, 0x11edc6f4, 0x1edc6f41, 0x55555555, 0xff0000ff, 0x01010101, 0x00ff00ff, 0xffff, 0x00010001}
	for i := range uint64(100) {
		r := body(4, i)
		masks = append(masks, uint32(r[0])<<24|uint32(r[1])<<16|uint32(r[2])<<8|uint32(r[3])|1)
	}
	for _, n := range []int{1, 3, 4, 5, 40} {
		f := frame.Put(body(n, 12))
		for at := range 8*len(f) - 31 {
			for _, mask := range masks {
				spoils(t, f, at, mask)
			}
		}
	}
}

// P2.3: the longest frames, at their ends and in their middle.
func TestSpoiltLongFrames(t *testing.T) {
	for _, n := range []int{255, 256, 4096, 8192} {
		f := frame.Put(body(n, 13))
		last := 8*len(f) - 32
		for _, at := range []int{0, 1, 8, 15, 16, 23, 24, 31, 32, 33, 4 * len(f), 4*len(f) + 5, last - 33, last - 31, last - 8, last - 1, last} {
			for _, mask := range []uint32{1, 0x80000001, 0xffffffff, 0x82f63b79, 0x12345679} {
				spoils(t, f, at, mask)
			}
		}
	}
}

// P2.3: lengths that have turned alike in both of their copies are another frame's: corrupt or short, but not one of this length.
func TestSpoiltLengthsThatAgree(t *testing.T) {
	f := frame.Put(body(300, 14))
	for turn := uint32(1); turn < 65536; turn++ {
		x := turned(f, 0, turn|turn<<16)
		got, n, e := frame.First(x)
		if len(got) != 0 || n == len(f) || e != api.ErrShort && e != api.ErrCorrupt {
			t.Errorf("%04x: %d bytes, %d, %d", turn, len(got), n, int(e))
		}
	}
}

// P3: what is handed in, and its spare room, is as it was.
func TestArgumentsStay(t *testing.T) {
	room := slices.Concat(body(30, 15), framed(body(20, 16)), body(50, 17))
	ahead := bytes.Clone(room)
	frame.Put(room[10:20])
	frame.Put(room[:0])
	frame.First(room[30:58])
	frame.First(room[30:40])
	frame.First(room[30:])
	frame.First(room)
	room[45]++
	ahead[45]++
	frame.First(room[30:58])
	if !bytes.Equal(room, ahead) {
		t.Error("bytes have changed")
	}
}

// P3: an answer is new memory, its spare room too: nothing that is done to it is seen elsewhere, nor the other way round.
func TestAnswersAreNew(t *testing.T) {
	in := slices.Concat(framed([]byte("abc")), framed([]byte("defgh")))
	ahead := bytes.Clone(in)
	one, _, _ := frame.First(in)
	two, _, _ := frame.First(in)
	three := frame.Put(in[4:7])
	four := frame.Put(in[4:7])
	for _, b := range [][]byte{one, three} {
		full := b[:cap(b)]
		for i := range full {
			full[i] = 7
		}
	}
	if !bytes.Equal(in, ahead) {
		t.Error("an answer is the argument's memory")
	}
	clear(in)
	if string(two) != "abc" || !bytes.Equal(four, framed([]byte("abc"))) {
		t.Errorf("%q, % x: an answer has changed", two, four)
	}
}

// P3: an answer hangs on the arguments alone: not on other calls, and not on spare room.
func TestAnswersHangOnArgumentsAlone(t *testing.T) {
	long := frame.Put(body(8192, 18))
	first := frame.Put([]byte("first"))
	kept := bytes.Clone(first)
	for n := range 100 {
		frame.Put(body(n, 19))
		frame.First(long)
		frame.First(long[:n])
	}
	if !bytes.Equal(first, kept) || !bytes.Equal(frame.Put([]byte("first")), kept) {
		t.Error("a call ahead of it changes a frame")
	}
	expect(t, "behind other calls", first, []byte("first"), 13, api.OK)
	expect(t, "with spare room", append(make([]byte, 0, 9000), first...), []byte("first"), 13, api.OK)
	room := append(make([]byte, 0, 100), "first"...)
	if !bytes.Equal(frame.Put(room), kept) {
		t.Error("spare room changes a frame")
	}
}
