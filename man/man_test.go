package man_test

import (
	"bytes"
	"fmt"
	"hash/crc32"
	"math"
	"slices"
	"testing"

	"souterrain/api"
	"souterrain/man"
)

// chance tells numbers that look like no pattern, but are the same each time.
type chance uint64

func (c *chance) below(n int) int {
	*c = *c*6364136223846793005 + 1442695040888963407
	return int(uint64(*c) >> 33 % uint64(n))
}

// noise is n bytes of all kinds; unlike seeds give unlike bytes.
func noise(n int, seed uint64) []byte {
	c := chance(seed)
	b := make([]byte, n)
	for i := range b {
		b[i] = byte(c.below(256))
	}
	return b
}

// high is a number in so many bytes, the highest first.
func high(n int64, size int) []byte {
	b := make([]byte, size)
	for i := range size {
		b[size-1-i] = byte(n)
		n >>= 8
	}
	return b
}

// summed is bytes with the sum that the document has a frame have behind them.
func summed(f []byte) []byte {
	s := crc32.Checksum(f, crc32.MakeTable(crc32.Castagnoli))
	return append(f, byte(s), byte(s>>8), byte(s>>16), byte(s>>24))
}

// framed is the bytes that the document has a body's frame have.
func framed(b ...[]byte) []byte {
	all := slices.Concat(b...)
	n := len(all)
	return summed(slices.Concat([]byte{byte(n >> 8), byte(n), 255 - byte(n>>8), 255 - byte(n)}, all))
}

// body is the bytes that stand in a manifest's frame, by the document's words, be it right or not.
func body(m api.Man) []byte {
	b := slices.Concat([]byte{8}, high(int64(m.Next), 4), high(int64(len(m.Segs)), 2))
	for _, n := range m.Segs {
		b = append(b, high(int64(n), 4)...)
	}
	return b
}

func written(m api.Man) []byte { return framed(body(m)) }

// rising is so many numbers, the first one from, each one so much greater than the one ahead.
func rising(count, from, by int) []int {
	l := make([]int, count)
	for i := range l {
		l[i] = from + i*by
	}
	return l
}

// rights are right manifests: of no segments, of the most, of the least and the greatest number, and such at which a number's bytes turn over.
func rights() []api.Man {
	return []api.Man{
		{}, {Next: 1}, {Next: 99999999}, {Segs: []int{}, Next: 5},
		{Segs: []int{0}, Next: 1}, {Segs: []int{0}, Next: 99999999}, {Segs: []int{99999998}, Next: 99999999}, {Segs: []int{0, 99999998}, Next: 99999999},
		{Segs: []int{2, 258}, Next: 300}, {Segs: []int{258}, Next: 259}, {Segs: []int{0, 1}, Next: 2}, {Segs: []int{1, 3, 7}, Next: 8},
		{Segs: []int{255, 256, 257, 65535, 65536, 65537, 1<<24 - 1, 1 << 24, 1<<24 + 1}, Next: 1<<24 + 2},
		{Segs: []int{0x01020304, 0x04030201}, Next: 0x05040302},
		{Segs: rising(255, 0, 1), Next: 255}, {Segs: rising(256, 0, 1), Next: 256}, {Segs: rising(257, 9, 7), Next: 99999999},
		{Segs: rising(999, 0, 100000), Next: 99999999}, {Segs: rising(1000, 0, 1), Next: 1000}, {Segs: rising(1000, 99000998, 1000), Next: 99999999}, {Segs: rising(1000, 99998999, 1), Next: 99999999},
	}
}

// wrongs are manifests that are not right.
func wrongs() []api.Man {
	return []api.Man{
		{Next: -1}, {Next: 100000000}, {Next: 1 << 31}, {Next: 1 << 32}, {Next: 1<<32 + 5}, {Next: math.MinInt}, {Next: math.MaxInt},
		{Segs: []int{0}}, {Segs: []int{2}, Next: 2}, {Segs: []int{2}, Next: 1}, {Segs: []int{2}, Next: 0}, {Segs: []int{2}, Next: -1}, {Segs: []int{1, 5}, Next: 5}, {Segs: []int{1, 5}, Next: 3}, {Segs: []int{1, 5}, Next: 2},
		{Segs: []int{3, 2}, Next: 9}, {Segs: []int{2, 2}, Next: 9}, {Segs: []int{0, 0}, Next: 5}, {Segs: []int{1, 2, 3, 3, 4}, Next: 9}, {Segs: []int{1, 2, 4, 3}, Next: 9}, {Segs: []int{5, 1, 2, 3}, Next: 9}, {Segs: []int{3, 2}, Next: 3},
		{Segs: []int{-1}, Next: 9}, {Segs: []int{-1}, Next: 0}, {Segs: []int{-1, 0, 1}, Next: 9}, {Segs: []int{math.MinInt}, Next: 9}, {Segs: []int{math.MinInt, 1}, Next: 9},
		{Segs: []int{99999999}, Next: 99999999}, {Segs: []int{99999999}, Next: 100000000}, {Segs: []int{99999999}, Next: 0}, {Segs: []int{100000000}, Next: 100000001}, {Segs: []int{5, 100000000}, Next: 99999999},
		{Segs: []int{math.MaxInt}, Next: math.MinInt}, {Segs: []int{math.MaxInt, 5}, Next: 6}, {Segs: []int{math.MaxInt}, Next: 0}, {Segs: []int{1 << 32}, Next: 5}, {Segs: []int{1<<32 + 1}, Next: 1<<32 + 2},
		{Segs: rising(1001, 0, 1), Next: 1001}, {Segs: rising(1001, 0, 1), Next: 99999999}, {Segs: rising(1001, 7, 9), Next: 99999}, {Segs: rising(2046, 0, 1), Next: 5000}, {Segs: rising(2047, 0, 1), Next: 5000}, {Segs: rising(65536, 0, 1), Next: 99999999}, {Segs: rising(65537, 0, 1), Next: 99999999}, {Segs: make([]int, 1000), Next: 9}, {Segs: rising(1000, 1000, -1), Next: 2000},
	}
}

// same is whether two manifests are alike; an empty list is like none.
func same(x, y api.Man) bool { return x.Next == y.Next && slices.Equal(x.Segs, y.Segs) }

func zero(m api.Man) bool { return m.Next == 0 && len(m.Segs) == 0 }

// brief tells the beginning of a thing.
func brief(x any) string {
	s := fmt.Sprintf("%v", x)
	return s[:min(len(s), 200)]
}

// plainRight is whether a manifest is right, by the document's words, one by one.
func plainRight(m api.Man) bool {
	is := len(m.Segs) <= 1000 && m.Next >= 0 && m.Next <= 99999999
	for i, n := range m.Segs {
		is = is && n >= 0 && n <= 99999999 && m.Next > n
		for _, ahead := range m.Segs[:i] {
			is = is && ahead < n
		}
	}
	return is
}

// got expects these bytes to be a manifest's.
func got(t *testing.T, what string, b []byte, want api.Man) {
	t.Helper()
	if m, is := man.Get(b); !is || !same(m, want) {
		t.Errorf("%s, of %d bytes: %s, %t; want %s", what, len(b), brief(m), is, brief(want))
	}
}

// refused expects these bytes to be no manifest's.
func refused(t *testing.T, what string, b []byte) {
	t.Helper()
	if m, is := man.Get(b); is || !zero(m) {
		t.Errorf("%s, of %d bytes: %s, %t; want none", what, len(b), brief(m), is)
	}
}

// P10.1, J1: bytes that are written out by hand.
func TestExample(t *testing.T) {
	for _, x := range []struct {
		m    api.Man
		want string
	}{
		{api.Man{Segs: []int{2, 258}, Next: 300}, "\x00\x0f\xff\xf0\x08\x00\x00\x01\x2c\x00\x02\x00\x00\x00\x02\x00\x00\x01\x02"},
		{api.Man{Next: 1}, "\x00\x07\xff\xf8\x08\x00\x00\x00\x01\x00\x00"},
		{api.Man{Segs: []int{0x05f5e0fe}, Next: 0x05f5e0ff}, "\x00\x0b\xff\xf4\x08\x05\xf5\xe0\xff\x00\x01\x05\xf5\xe0\xfe"},
	} {
		want := summed([]byte(x.want))
		if b := man.Put(x.m); !bytes.Equal(b, want) {
			t.Errorf("% x; want % x", b, want)
		}
		got(t, "by hand", want, x.m)
	}
}

// P10.1, J1, and P10.2: right ones have the bytes that the document has them have, and are got of these.
func TestThereAndBack(t *testing.T) {
	for _, m := range rights() {
		if !man.Right(m) {
			t.Errorf("%s is not right", brief(m))
		}
		b := man.Put(m)
		if want := written(m); !bytes.Equal(b, want) || len(b) != 15+4*len(m.Segs) {
			t.Errorf("%s: % .60x; want % .60x", brief(m), b, want)
		}
		got(t, "there and back", b, m)
	}
}

// P10.1, J1: each number of segments that may be, and some more.
func TestEachCount(t *testing.T) {
	for count := range 1100 {
		m := api.Man{Segs: rising(count, 3, 5), Next: 3 + 5*count}
		b := man.Put(m)
		if count > 1000 {
			if man.Right(m) || len(b) != 0 {
				t.Error(count, "is right")
			}
			refused(t, "too many", written(m))
			continue
		}
		if !man.Right(m) || !bytes.Equal(b, written(m)) {
			t.Error(count, "is not right")
		}
		got(t, "there and back", b, m)
	}
}

// P10.1, J1, and P1: those that are not right have no bytes, nor does what they would have tell any.
func TestWrongOnes(t *testing.T) {
	for _, m := range wrongs() {
		if man.Right(m) {
			t.Errorf("%s is right", brief(m))
		}
		if b := man.Put(m); len(b) != 0 {
			t.Errorf("%s: % .60x", brief(m), b)
		}
		// A number that four bytes can't hold may be a right one in its lowest ones.
		if !slices.ContainsFunc(append(slices.Clone(m.Segs), m.Next, len(m.Segs)<<16), func(n int) bool { return n < 0 || n >= 1<<32 }) {
			refused(t, brief(m), written(m))
		}
	}
	for _, n := range []int64{-1, 100000000, 1 << 31, 1<<31 + 5, 1<<32 - 1} {
		refused(t, "a Next that is none", framed([]byte{8}, high(n, 4), []byte{0, 0}))
		refused(t, "a segment that is none", framed([]byte{8}, high(99999999, 4), []byte{0, 1}, high(n, 4)))
		refused(t, "a segment that is none, and Next behind it", framed([]byte{8}, high(n+1, 4), []byte{0, 1}, high(n, 4)))
		refused(t, "the first segment is none", framed([]byte{8}, high(99999999, 4), []byte{0, 2}, high(n, 4), high(5, 4)))
	}
}

// P10.1, J1, and P10.2: all manifests of up to three numbers, of right and wrong ones: right ones, and these alone, have bytes, of which they are got.
func TestFewNumbers(t *testing.T) {
	numbers := []int{math.MinInt, -1, 0, 1, 2, 3, 99999998, 99999999, 100000000, 1 << 31, math.MaxInt - 1, math.MaxInt}
	lists := [][]int{nil}
	for from := 0; from < len(lists) && len(lists[from]) < 3; from++ {
		for _, n := range numbers {
			lists = append(lists, append(slices.Clone(lists[from]), n))
		}
	}
	right := 0
	for _, l := range lists {
		for _, next := range numbers {
			m := api.Man{Segs: l, Next: next}
			is := plainRight(m)
			if man.Right(m) != is {
				t.Fatalf("%v is right: %t", m, !is)
			}
			b := man.Put(m)
			if !is {
				if len(b) != 0 {
					t.Errorf("%v: % x", m, b)
				}
				continue
			}
			right++
			if !bytes.Equal(b, written(m)) {
				t.Errorf("%v: % x", m, b)
			}
			got(t, "there and back", b, m)
		}
	}
	// Each right one is some of the six numbers that may be, the last of which is Next: one alone, or two, three or four.
	if right != 6+15+20+15 {
		t.Error(right, "were right")
	}
}

// P10.1, J1: bytes that are none, that end too early, or go on too long, in the frame or behind it.
func TestBytesOfNoManifest(t *testing.T) {
	refused(t, "nil", nil)
	refused(t, "nothing", []byte{})
	for _, m := range rights() {
		b, inner := written(m), body(m)
		for n := range b {
			refused(t, "cut", b[:n])
			refused(t, "cut, without room", b[:n:n])
		}
		for n := range len(inner) {
			if n > 0 {
				refused(t, "a body that is cut", framed(inner[:n]))
			}
		}
		for n := 1; n < 9; n++ {
			refused(t, "more behind it", append(bytes.Clone(b), make([]byte, n)...))
			refused(t, "more in the body", framed(inner, make([]byte, n)))
			refused(t, "something ahead of it", append(make([]byte, n), b...))
		}
		refused(t, "twice", append(bytes.Clone(b), b...))
		refused(t, "framed again", framed(b))
		refused(t, "the body alone", inner)
		refused(t, "more in the body, up to the longest one", framed(inner, make([]byte, 8192-len(inner))))
	}
}

// P10.1, J1: a count that is not the one of the numbers that are there.
func TestWrongCounts(t *testing.T) {
	for _, segs := range [][]int{nil, {5}, {5, 6}, rising(256, 1, 1), rising(999, 1, 1), rising(1000, 1, 1)} {
		for count := range 65536 {
			if count > 1100 && count%251 != 0 && count != 65535 {
				continue
			}
			b := body(api.Man{Segs: segs, Next: 5000})
			copy(b[5:], high(int64(count), 2))
			if count == len(segs) {
				got(t, "the right count", framed(b), api.Man{Segs: segs, Next: 5000})
			} else {
				refused(t, fmt.Sprint("count ", count), framed(b))
			}
		}
	}
}

// P10.1, J1: none but the byte 8 begins a manifest's body.
func TestFirstByte(t *testing.T) {
	for _, m := range rights() {
		b := body(m)
		for first := range 256 {
			if b[0] = byte(first); first != 8 {
				refused(t, fmt.Sprint("first byte ", first), framed(b))
			}
		}
	}
	refused(t, "a segment's first frame", framed([]byte{9, 0, 0, 0, 7}))
	refused(t, "a tomb", framed([]byte{4, 'a', 'b'}))
	for n := 1; n < 100; n++ {
		refused(t, "eights", framed(bytes.Repeat([]byte{8}, n)))
		if n != 7 {
			refused(t, "an 8, and zeros", framed([]byte{8}, make([]byte, n-1)))
		}
	}
}

// P10.2: what is got of any bytes has these bytes; what is not right by the document's words is not got.
func TestAnyBytes(t *testing.T) {
	c := chance(5)
	found := 0
	for seed := range uint64(200000) {
		m := api.Man{Next: c.below(40)}
		for last := 0; c.below(4) > 0; last++ {
			last += c.below(9) - 1
			m.Segs = append(m.Segs, last)
		}
		b := body(m)
		if c.below(4) == 0 {
			b[c.below(len(b))] ^= byte(1 + c.below(255))
		}
		b = framed(b)
		if seed%10 == 0 {
			b = framed(noise(1+c.below(30), seed))
		}
		m, is := man.Get(b)
		if is {
			found++
			if !plainRight(m) || !bytes.Equal(b, written(m)) || !bytes.Equal(b, man.Put(m)) {
				t.Fatalf("% x: %v", b, m)
			}
		} else if !zero(m) {
			t.Fatalf("% x: %v, beside false", b, m)
		}
	}
	if found < 20000 {
		t.Error("only", found)
	}
}

// turned is b with the bits of mask turned, its lowest one that at, counted from the first byte's lowest one on; those behind the end count for nothing.
func turned(b []byte, at int, mask uint32) []byte {
	b = bytes.Clone(b)
	for i := range 32 {
		if mask>>i&1 == 1 && at+i < 8*len(b) {
			b[(at+i)/8] ^= 1 << ((at + i) % 8)
		}
	}
	return b
}

// masks are patterns of bits that turn, the lowest one always among them.
func masks() []uint32 {
	l := []uint32{1, 3, 0xff, 0x80000001, 0xffffffff, 0x82f63b79, 0x05ec76f1, 0x11edc6f5, 0x1edc6f41, 0x55555555, 0xff0000ff, 0x01010101, 0x00010001, 0x7fffffff}
	for i := range uint64(40) {
		r := noise(4, i)
		l = append(l, uint32(r[0])<<24|uint32(r[1])<<16|uint32(r[2])<<8|uint32(r[3])|1)
	}
	return l
}

// P10.4: bits that have turned within 32 of each place, across the parts of a manifest and at both of its ends.
func TestSpoilt(t *testing.T) {
	for _, m := range []api.Man{{}, {Next: 1}, {Segs: []int{0}, Next: 1}, {Segs: []int{2, 258}, Next: 300}, {Segs: []int{7, 8, 9, 99999998}, Next: 99999999}} {
		b := man.Put(m)
		for at := range 8 * len(b) {
			for _, mask := range masks() {
				refused(t, fmt.Sprintf("bits of %x from %d on", mask, at), turned(b, at, mask))
			}
			for mask := uint32(1); mask < 1<<10; mask += 2 {
				refused(t, fmt.Sprintf("bits of %x from %d on", mask, at), turned(b, at, mask))
			}
		}
	}
}

// P10.4: the longest manifests, at some of their places.
func TestSpoiltLongOnes(t *testing.T) {
	c := chance(9)
	for _, m := range rights() {
		b := man.Put(m)
		for range 300 {
			at := c.below(8 * len(b))
			refused(t, fmt.Sprint("bits from ", at, " on"), turned(b, at, uint32(c.below(1<<31))<<1|1))
		}
	}
}

// P10.4: a length that has turned alike in both of its copies, so that it is another frame's, be that there whole, and right, or not.
func TestSpoiltLengthsThatAgree(t *testing.T) {
	b := man.Put(api.Man{Segs: rising(20, 1, 3), Next: 90})
	for turn := uint32(1); turn < 65536; turn++ {
		refused(t, fmt.Sprintf("%x", turn), turned(b, 0, turn|turn<<16))
	}
	// One's second segment may be the sum of what would be a shorter frame, that ends there.
	for first := range 1000000 {
		shorter := framed(body(api.Man{Segs: []int{first}, Next: 99999999}))
		copy(shorter[9:], []byte{0, 2})
		shorter = summed(shorter[:15])
		second := int(shorter[15])<<24 | int(shorter[16])<<16 | int(shorter[17])<<8 | int(shorter[18])
		if second <= first || second >= 99999999 {
			continue
		}
		m := api.Man{Segs: []int{first, second}, Next: 99999999}
		b := man.Put(m)
		got(t, "as it was", b, m)
		copy(b, shorter[:4])
		if !bytes.Equal(b[:19], shorter) {
			t.Fatal("the shorter frame is not there")
		}
		refused(t, "a shorter frame that is right", b)
		return
	}
	t.Error("there is no such manifest")
}

// P3: what is handed in is as it was, its spare room too.
func TestArgumentsStay(t *testing.T) {
	room := rising(30, 1, 2)
	ahead := slices.Clone(room)
	for n := range room {
		m := api.Man{Segs: room[:n], Next: 1 + 2*n}
		man.Right(m)
		b := man.Put(m)
		b = append(b, noise(20, 3)...)
		was := bytes.Clone(b)
		man.Get(b[:len(b)-20])
		man.Get(b[:len(b)-30])
		man.Get(b)
		if !bytes.Equal(b, was) {
			t.Error("bytes have changed")
		}
		man.Put(api.Man{Segs: room[:n], Next: 0})
	}
	if !slices.Equal(room, ahead) {
		t.Error("numbers have changed")
	}
}

// P3: an answer is new memory, its spare room too: nothing that is done to it is seen elsewhere, nor the other way round.
func TestAnswersAreNew(t *testing.T) {
	for n := range 40 {
		want := api.Man{Segs: rising(n, 1, 2), Next: 100}
		b := written(want)
		one, _ := man.Get(b)
		two, _ := man.Get(b)
		put, again := man.Put(two), man.Put(two)
		clear(one.Segs[:cap(one.Segs)])
		clear(put[:cap(put)])
		if !bytes.Equal(b, written(want)) || !bytes.Equal(again, b) || !same(two, want) {
			t.Error(n, "an answer is not new")
		}
		clear(b)
		if !same(two, want) {
			t.Error(n, "an answer hangs on its argument")
		}
		b = man.Put(two)
		clear(two.Segs)
		if !bytes.Equal(b, written(want)) {
			t.Error(n, "bytes hang on the manifest")
		}
	}
}
