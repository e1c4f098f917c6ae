package sum_test

import (
	"bytes"
	"hash/crc32"
	"math/bits"
	"testing"

	"souterrain/sum"
)

// filled is n bytes that look like no pattern, but are the same each time; unlike seeds give unlike bytes.
func filled(n int, seed uint32) []byte {
	b := make([]byte, n)
	x := seed*2654435761 + 12345
	for i := range b {
		x = x*1664525 + 1013904223
		b[i] = byte(x >> 24)
	}
	return b
}

// tables are the document's table, and some that are not.
func tables() map[string][256]uint32 {
	var zeros, ones, places, mixed [256]uint32
	x := uint32(7)
	for i := range 256 {
		x = x*1664525 + 1013904223
		ones[i] = 0xffffffff
		places[i] = uint32(i)
		mixed[i] = x
	}
	off := sum.Table()
	off[200] ^= 1
	return map[string][256]uint32{
		"the document's": sum.Table(),
		"zeros":          zeros,
		"ones":           ones,
		"places":         places,
		"mixed":          mixed,
		"one bit off":    off,
		"another sum's":  [256]uint32(*crc32.IEEETable),
	}
}

// slow is A2's On, word by word, in numbers that do not wrap round.
func slow(t [256]uint32, s uint32, b []byte) uint32 {
	v := uint64(s) ^ 4294967295
	for i := 0; i < len(b); i++ {
		low := v % 256
		v = v/256 ^ uint64(t[low^uint64(b[i])])
	}
	return uint32(v ^ 4294967295)
}

// P1.1, A1: each place of the table.
func TestTableAtEachPlace(t *testing.T) {
	table := sum.Table()
	for i := range 256 {
		want := uint64(i)
		for range 8 {
			if want%2 == 0 {
				want /= 2
			} else {
				want = want/2 ^ 2197175160
			}
		}
		if uint64(table[i]) != want {
			t.Errorf("place %d: %08x, want %08x", i, table[i], want)
		}
	}
	if table != [256]uint32(*crc32.MakeTable(crc32.Castagnoli)) {
		t.Error("it is not the table of Castagnoli's sum")
	}
}

// P1.1, A1: places that were worked out by hand.
func TestTableExamples(t *testing.T) {
	table := sum.Table()
	for i, want := range map[int]uint32{0: 0, 1: 0xf26b8303, 2: 0xe13b70f7, 128: 0x82f63b78, 255: 0xad7d5351} {
		if table[i] != want {
			t.Errorf("place %d: %08x, want %08x", i, table[i], want)
		}
	}
}

// P1.1, A2: sums that are known from elsewhere (the four of 32 bytes: RFC 3720, B.4).
func TestOfExamples(t *testing.T) {
	up, down := make([]byte, 32), make([]byte, 32)
	for i := range 32 {
		up[i], down[i] = byte(i), byte(31-i)
	}
	for _, c := range []struct {
		b    []byte
		want uint32
	}{
		{nil, 0},
		{[]byte{}, 0},
		{[]byte("123456789"), 0xe3069283},
		{[]byte("a"), 0xc1d04330},
		{make([]byte, 1), 0x527d5351},
		{make([]byte, 32), 0x8a9136aa},
		{bytes.Repeat([]byte{255}, 32), 0x62a8ab43},
		{up, 0x46dd794e},
		{down, 0x113fdb5c},
	} {
		if got := sum.Of(sum.Table(), c.b); got != c.want {
			t.Errorf("% x: %08x, want %08x", c.b, got, c.want)
		}
	}
}

// P1.1, A2: of one byte at a time, every sum's lowest byte and every byte meet.
func TestOnMeetsEachPlace(t *testing.T) {
	for name, table := range tables() {
		for low := range 256 {
			for c := range 256 {
				s, b := 0x5a3c9600|uint32(low), []byte{byte(c)}
				if got, want := sum.On(table, s, b), slow(table, s, b); got != want {
					t.Fatalf("%s: %08x, %d: %08x, want %08x", name, s, c, got, want)
				}
			}
		}
	}
}

// P1.1, A2: many lengths, any table, and any number to go on from.
func TestOnAndOfAtManyLengths(t *testing.T) {
	lengths := []int{8192, 65535, 65536, 65537, 1<<20 + 3}
	for n := range 300 {
		lengths = append(lengths, n)
	}
	starts := []uint32{0, 1, 255, 256, 0x12345678, 0x80000000, 0xfffffffe, 0xffffffff}
	for name, table := range tables() {
		for i, n := range lengths {
			b, s := filled(n, uint32(n)), starts[i%len(starts)]
			if got, want := sum.On(table, s, b), slow(table, s, b); got != want {
				t.Errorf("%s: On %08x of %d bytes: %08x, want %08x", name, s, n, got, want)
			}
			if got, want := sum.Of(table, b), slow(table, 0, b); got != want {
				t.Errorf("%s: Of %d bytes: %08x, want %08x", name, n, got, want)
			}
		}
	}
}

// P1.1, A2: the program's sums are those of another program, too.
func TestSumsAreCastagnolis(t *testing.T) {
	other := crc32.MakeTable(crc32.Castagnoli)
	for n := range 600 {
		b, s := filled(n, uint32(n)+1), uint32(n)*2654435761
		if got, want := sum.Of(sum.Table(), b), crc32.Checksum(b, other); got != want {
			t.Errorf("Of %d bytes: %08x, want %08x", n, got, want)
		}
		if got, want := sum.On(sum.Table(), s, b), crc32.Update(s, other, b); got != want {
			t.Errorf("On %08x of %d bytes: %08x, want %08x", s, n, got, want)
		}
	}
}

// P1.1, A2: a table that is not the document's is the one that counts.
func TestOtherTables(t *testing.T) {
	var zeros, one [256]uint32
	one[0xff^1] = 0x0badcafe
	for _, c := range []struct {
		table [256]uint32
		s     uint32
		b     []byte
		want  uint32
	}{
		{zeros, 0x12345678, []byte{1}, 0xff123456},
		{zeros, 0, []byte{1, 2, 3, 4}, 0xffffffff},
		{zeros, 0, []byte{9}, 0xff000000},
		{one, 0, []byte{1}, 0xff000000 ^ 0x0badcafe},
		{one, 0, []byte{2}, 0xff000000},
		{one, 0xffffffff, []byte{0xff ^ 1}, ^uint32(0x0badcafe)},
	} {
		if got := sum.On(c.table, c.s, c.b); got != c.want {
			t.Errorf("On %08x of % x: %08x, want %08x", c.s, c.b, got, c.want)
		}
	}
}

// P1.1, A2: with no bytes at all a sum is what it was.
func TestNoBytes(t *testing.T) {
	for name, table := range tables() {
		for _, s := range []uint32{0, 1, 5, 0x12345678, 0x7fffffff, 0x80000000, 0xffffffff} {
			if sum.On(table, s, nil) != s || sum.On(table, s, []byte{}) != s || sum.On(table, s, make([]byte, 0, 64)) != s {
				t.Errorf("%s: %08x has changed", name, s)
			}
		}
		if sum.Of(table, nil) != 0 || sum.Of(table, []byte{}) != 0 {
			t.Errorf("%s: the sum of nothing is not 0", name)
		}
	}
}

// P1.2: bytes that are cut anywhere, once, have the sum of all of them.
func TestGoesOnBehindOneCut(t *testing.T) {
	for name, table := range tables() {
		for _, n := range []int{0, 1, 2, 9, 64, 257} {
			b := filled(n, 99)
			whole, begun := sum.Of(table, b), sum.On(table, 0xdeadbeef, b)
			for i := range n + 1 {
				if got := sum.On(table, sum.Of(table, b[:i]), b[i:]); got != whole {
					t.Errorf("%s: %d bytes cut at %d: %08x, want %08x", name, n, i, got, whole)
				}
				if got := sum.On(table, sum.On(table, 0xdeadbeef, b[:i]), b[i:]); got != begun {
					t.Errorf("%s: %d bytes cut at %d, from deadbeef on: %08x, want %08x", name, n, i, got, begun)
				}
			}
		}
	}
}

// P1.2: bytes that are cut into many parts, empty ones among them, have the sum of all of them.
func TestGoesOnBehindManyCuts(t *testing.T) {
	b := filled(1000, 3)
	for name, table := range tables() {
		for _, step := range []int{1, 2, 3, 7, 255, 256, 999, 1000} {
			s := uint32(0)
			for at := 0; at < len(b); at += step {
				s = sum.On(table, s, b[at:min(at+step, len(b))])
				s = sum.On(table, s, nil)
			}
			if want := sum.Of(table, b); s != want {
				t.Errorf("%s: parts of %d: %08x, want %08x", name, step, s, want)
			}
		}
	}
}

// turned is b with the bits of mask turned, its lowest one that at, counted from the first byte's lowest one on.
func turned(b []byte, at int, mask uint32) []byte {
	b = bytes.Clone(b)
	for i := range 32 {
		if mask>>i&1 == 1 {
			b[(at+i)/8] ^= 1 << ((at + i) % 8)
		}
	}
	return b
}

// P1.3: each pattern of up to ten bits, at each place, of bytes of many lengths.
func TestShortBursts(t *testing.T) {
	table := sum.Table()
	for _, n := range []int{1, 2, 3, 4, 5, 9} {
		b := filled(n, uint32(n))
		whole := sum.Of(table, b)
		for at := range 8 * n {
			width := min(10, 8*n-at)
			for mask := uint32(1); mask < 1<<width; mask++ {
				if sum.Of(table, turned(b, at, mask)) == whole {
					t.Fatalf("%d bytes, at %d: %x leaves the sum as it was", n, at, mask)
				}
			}
		}
	}
}

// P1.3: patterns of up to 32 bits, the widest ones among them.
func TestWideBursts(t *testing.T) {
	table := sum.Table()
	masks := []uint32{0xffffffff, 0x80000001, 0x82f63b78, 0x82f63b79, 0x05ec76f1, 0x11edc6f4, 0x1edc6f41, 0x55555555, 0xaaaaaaaa, 0xff0000ff}
	x := uint32(1)
	for range 200 {
		x = x*1664525 + 1013904223
		masks = append(masks, x|1)
	}
	for _, n := range []int{4, 5, 12, 100} {
		b := filled(n, uint32(n))
		whole := sum.Of(table, b)
		for at := range 8*n - 31 {
			for _, mask := range masks {
				if sum.Of(table, turned(b, at, mask)) == whole {
					t.Fatalf("%d bytes, at %d: %08x leaves the sum as it was", n, at, mask)
				}
			}
		}
	}
}

// P1.3: what each bit of 32 that stand together changes of the sum can not be undone by the others (they are independent), so that no pattern of them leaves the sum as it was.
func TestBurstsOfAllPatterns(t *testing.T) {
	table := sum.Table()
	for _, n := range []int{1, 3, 4, 5, 17, 64, 8192} {
		b := filled(n, uint32(n))
		whole := sum.Of(table, b)
		for _, at := range burstPlaces(n) {
			var rows [32]uint32
			for i := range min(32, 8*n-at) {
				change := reduced(rows, sum.Of(table, turned(b, at, 1<<i))^whole)
				if change == 0 {
					t.Fatalf("%d bytes, from %d on: bit %d can be undone", n, at, i)
				}
				rows[bits.Len32(change)-1] = change
			}
		}
	}
}

// burstPlaces are all places of bits of few bytes; of many some at their ends and in their middle.
func burstPlaces(n int) []int {
	var all []int
	for at := range 8 * n {
		if n <= 64 || at < 8 || at >= 8*n-33 || at/8 == n/2 {
			all = append(all, at)
		}
	}
	return all
}

// reduced is what is left of a change, when all is taken off that the rows (each with its highest bit at its place) make.
func reduced(rows [32]uint32, change uint32) uint32 {
	for i := 31; i >= 0; i-- {
		if change>>i&1 == 1 {
			change ^= rows[i]
		}
	}
	return change
}

// P1, P2: odd arguments are answered, too: there is no error, and no panic.
func TestOddArguments(t *testing.T) {
	for name, table := range tables() {
		for _, b := range [][]byte{nil, {}, {0}, {255}, make([]byte, 5), bytes.Repeat([]byte{255}, 1<<16)} {
			for _, s := range []uint32{0, 0x80000000, 0xffffffff} {
				if got, want := sum.On(table, s, b), slow(table, s, b); got != want {
					t.Errorf("%s: On %08x of %d bytes: %08x, want %08x", name, s, len(b), got, want)
				}
			}
		}
	}
}

// P3: what is handed in, and its spare room, is as it was.
func TestArgumentsStay(t *testing.T) {
	room := filled(64, 5)
	ahead := bytes.Clone(room)
	table := sum.Table()
	sum.Of(table, room[10:20])
	sum.On(table, 77, room[10:20])
	if !bytes.Equal(room, ahead) {
		t.Error("bytes have changed")
	}
	if table != sum.Table() {
		t.Error("the table has changed")
	}
}

// P3: an answer hangs on the arguments alone: not on other calls, and not on what is done to a table that was handed out, or to bytes that were handed in.
func TestAnswersHangOnArgumentsAlone(t *testing.T) {
	b := filled(40, 6)
	table := sum.Table()
	of, on := sum.Of(table, b), sum.On(table, 9, b)
	for _, other := range tables() {
		sum.Of(other, filled(100, 1))
		sum.On(other, 3, b)
	}
	if sum.Of(table, b) != of || sum.On(table, 9, b) != on {
		t.Error("a call ahead of it changes an answer")
	}
	spare := append(make([]byte, 0, 80), b...)
	spare[:80][79] = 1
	if sum.Of(table, spare) != of || sum.On(table, 9, spare) != on {
		t.Error("spare room changes an answer")
	}
	b[0]++
	if sum.Of(table, b) == of {
		t.Error("the sum is of bytes that were there ahead")
	}
	b[0]--
	clear(table[:])
	if sum.Table() == table || sum.Of(sum.Table(), b) != of {
		t.Error("a table that was handed out is kept")
	}
}
