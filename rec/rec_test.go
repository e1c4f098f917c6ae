package rec_test

import (
	"bytes"
	"fmt"
	"math"
	"slices"
	"strings"
	"testing"

	"souterrain/api"
	"souterrain/rec"
)

// body is n bytes that look like no pattern, but are the same each time; unlike seeds give unlike bytes.
func body(n int, seed uint64) []byte {
	b := make([]byte, n)
	for i := range b {
		seed = seed*6364136223846793005 + 1442695040888963407
		b[i] = byte(seed >> 56)
	}
	return b
}

// chance tells numbers that look like no pattern, but are the same each time.
type chance uint64

func (c *chance) below(n int) int {
	*c = *c*6364136223846793005 + 1442695040888963407
	return int(uint64(*c) >> 33 % uint64(n))
}

// same is whether two records are alike; an empty list is like none.
func same(x, y api.Rec) bool {
	return x.Kind == y.Kind && x.Key == y.Key && x.Id == y.Id && x.No == y.No && x.Size == y.Size &&
		slices.Equal(x.Locs, y.Locs) && bytes.Equal(x.B, y.B)
}

// brief tells the beginning of a record.
func brief(r api.Rec) string {
	s := fmt.Sprintf("%#v", r)
	return s[:min(len(s), 200)]
}

// high is a number in so many bytes, the highest first, without wrapping round.
func high(n uint64, size int) []byte {
	b := make([]byte, size)
	for i := range size {
		b[size-1-i] = byte(n % 256)
		n /= 256
	}
	return b
}

// written is the bytes that the document has a right record have.
func written(r api.Rec) []byte {
	parts := [][]byte{{byte(r.Kind)}}
	key := []byte(r.Key)
	switch r.Kind {
	case 1:
		parts = append(parts, high(uint64(r.Id), 6), high(uint64(r.No), 2), r.B)
	case 2:
		parts = append(parts, high(uint64(len(key)), 1), key, high(uint64(r.Id), 6), high(uint64(r.Size), 3), high(uint64(len(r.Locs)), 2))
		for _, l := range r.Locs {
			parts = append(parts, high(uint64(l.Seg), 4), high(uint64(l.At), 4), high(uint64(l.N), 2))
		}
	case 3:
		parts = append(parts, high(uint64(len(key)), 1), key, r.B)
	case 4:
		parts = append(parts, key)
	}
	return slices.Concat(parts...)
}

// piece, root, inline and tomb are right records.
func piece(id int64, no int, b []byte) api.Rec {
	return api.Rec{Kind: api.Piece, Id: id, No: no, B: b}
}

func root(key string, id int64, locs ...api.Loc) api.Rec {
	size := 0
	for _, l := range locs {
		size += l.N
	}
	return api.Rec{Kind: api.Root, Key: key, Id: id, Size: size, Locs: locs}
}

func inline(key string, b []byte) api.Rec { return api.Rec{Kind: api.Inline, Key: key, B: b} }

func tomb(key string) api.Rec { return api.Rec{Kind: api.Tomb, Key: key} }

// locs are n pieces' places, all as long, in unlike places.
func locs(n, long int) []api.Loc {
	all := make([]api.Loc, n)
	for i := range all {
		all[i] = api.Loc{Seg: i * 195694 % 100000000, At: i * 2101249 % (1<<30 + 1), N: long}
	}
	return all
}

// longKey is a key of 64 bytes.
func longKey() string { return strings.Repeat("k", 64) }

// keys are keys: short ones, the longest one, those of bytes that are no letters, and one that looks like a record.
func keys() []string {
	return []string{"a", "ab", "\x00", "\xff", "\x00\x00", "\x04ab", "\x03\x02ab", "é€\xc3", strings.Repeat("\x00", 64), strings.Repeat("\xff", 63), longKey(), string(body(17, 3))}
}

// rights are right records of all kinds: small ones, those at each edge that the document names, and ones in between.
func rights() []api.Rec {
	last := api.Loc{Seg: 99999999, At: 1 << 30, N: 4096}
	first := api.Loc{N: 1}
	all := []api.Rec{
		root("k", 1, api.Loc{Seg: 2, At: 13, N: 4}, api.Loc{Seg: 3, At: 256, N: 1}),
		root("k", 1<<40, first), root(longKey(), 0, last), root("k", 7, first, last, first), root("k", 7, last, last),
		root("k", 9, locs(512, 1)...), root(longKey(), 1<<40, locs(512, 128)...), root("k", 9, locs(511, 128)...), root("k", 9, locs(16, 4096)...), root("k", 3, locs(256, 255)...),
	}
	for _, id := range []int64{0, 1, 255, 256, 258, 1<<16 - 1, 1 << 16, 1 << 24, 1<<31 - 1, 1 << 31, 1<<32 - 1, 1 << 32, 1<<32 + 5, 1<<40 - 1, 1 << 40} {
		all = append(all, piece(id, 3, []byte("xy")), root("q", id, last))
	}
	for _, no := range []int{0, 1, 255, 256, 257, 510, 511} {
		all = append(all, piece(5, no, []byte{byte(no)}))
	}
	for _, n := range []int{1, 2, 255, 256, 257, 4095, 4096} {
		all = append(all, piece(1<<40, 511, body(n, uint64(n))), piece(0, 0, make([]byte, n)), root("n", 5, api.Loc{Seg: n, At: n, N: n}))
		all = append(all, inline("n", body(n, uint64(n))), inline(longKey(), bytes.Repeat([]byte{255}, n)))
	}
	for _, k := range keys() {
		all = append(all, root(k, 77, first, last), inline(k, nil), inline(k, []byte{}), inline(k, []byte{0}), inline(k, []byte("xy")), tomb(k))
	}
	return append(all, random(400)...)
}

// random are n right records that look like no pattern.
func random(n int) []api.Rec {
	c := chance(11)
	all := make([]api.Rec, 0, n)
	for i := range n {
		key := string(body(1+c.below(64), uint64(i)))
		id := int64(c.below(1<<20+1)) * int64(c.below(1<<20+1))
		switch 1 + i%4 {
		case api.Piece:
			all = append(all, piece(id, c.below(512), body(1+c.below(40), uint64(i))))
		case api.Root:
			l := make([]api.Loc, 1+c.below(9))
			for j := range l {
				l[j] = api.Loc{Seg: c.below(100000000), At: c.below(1<<30 + 1), N: 1 + c.below(4096)}
			}
			all = append(all, root(key, id, l...))
		case api.Inline:
			all = append(all, inline(key, body(c.below(40), uint64(i))))
		default:
			all = append(all, tomb(key))
		}
	}
	return all
}

// expect tells if a record is not right, or its bytes are not those wanted, or it is not got of them.
func expect(t *testing.T, r api.Rec, want []byte) {
	t.Helper()
	if !rec.Right(r) {
		t.Errorf("%s: is not right", brief(r))
	}
	if got := rec.Put(r); !bytes.Equal(got, want) {
		t.Errorf("%s: % x, want % x", brief(r), got, want)
	}
	if got, is := rec.Get(want); !is || !same(got, r) {
		t.Errorf("% x: %v, %s, want %s", want, is, brief(got), brief(r))
	}
}

// expectWrong tells if a record is right, or has bytes.
func expectWrong(t *testing.T, what string, r api.Rec) {
	t.Helper()
	if rec.Right(r) {
		t.Errorf("%s: is right: %s", what, brief(r))
	}
	if got := rec.Put(r); len(got) != 0 {
		t.Errorf("%s: has %d bytes", what, len(got))
	}
}

// expectNone tells if bytes have a record, or something is told of none.
func expectNone(t *testing.T, what string, b []byte) {
	t.Helper()
	if got, is := rec.Get(b); is || !same(got, api.Rec{}) {
		t.Errorf("%s: % x: %v, %s", what, b[:min(len(b), 40)], is, brief(got))
	}
}

// P4.1, D1: a key is 1 to 64 bytes, of any kind.
func TestKey(t *testing.T) {
	for n := range 600 {
		for _, c := range []string{"a", "\x00", "\xff"} {
			if got, want := rec.Key(strings.Repeat(c, n)), 1 <= n && n <= 64; got != want {
				t.Errorf("%d of %q: %v", n, c, got)
			}
		}
	}
	for _, n := range []int{4096, 65535, 65536, 65537, 1<<20 + 1} {
		if rec.Key(strings.Repeat("a", n)) {
			t.Errorf("%d bytes are a key", n)
		}
	}
	// Bytes are counted, not letters.
	if !rec.Key(strings.Repeat("é", 32)) || rec.Key(strings.Repeat("é", 33)) {
		t.Error("letters of two bytes")
	}
}

// P4.1, D1, D2: bytes that were written out by hand.
func TestExamples(t *testing.T) {
	for _, c := range []struct {
		r api.Rec
		b string
	}{
		{tomb("ab"), "\x04ab"},
		{inline("ab", []byte("xy")), "\x03\x02abxy"},
		{inline("ab", nil), "\x03\x02ab"},
		{piece(258, 3, []byte("xy")), "\x01\x00\x00\x00\x00\x01\x02\x00\x03xy"},
		{piece(1<<40, 511, []byte{9}), "\x01\x01\x00\x00\x00\x00\x00\x01\xff\x09"},
		{piece(0x0203040506, 0x0107, []byte{0}), "\x01\x00\x02\x03\x04\x05\x06\x01\x07\x00"},
		{root("k", 1, api.Loc{Seg: 2, At: 13, N: 4}, api.Loc{Seg: 3, At: 256, N: 1}), "\x02\x01k\x00\x00\x00\x00\x00\x01\x00\x00\x05\x00\x02\x00\x00\x00\x02\x00\x00\x00\x0d\x00\x04\x00\x00\x00\x03\x00\x00\x01\x00\x00\x01"},
		{root("key", 1<<40, api.Loc{Seg: 99999999, At: 1 << 30, N: 4096}), "\x02\x03key\x01\x00\x00\x00\x00\x00\x00\x10\x00\x00\x01\x05\xf5\xe0\xff\x40\x00\x00\x00\x10\x00"},
	} {
		expect(t, c.r, []byte(c.b))
	}
}

// P4.1, D1, D2; P4.2: right records of all kinds, at each edge.
func TestRightRecords(t *testing.T) {
	for _, r := range rights() {
		expect(t, r, written(r))
	}
}

// P4.3: a right record's bytes are a body, the longest ones of each kind, too.
func TestBytesAreABody(t *testing.T) {
	for _, r := range rights() {
		if n := len(rec.Put(r)); n < 1 || n > api.MaxBody {
			t.Errorf("%s: %d bytes", brief(r), n)
		}
	}
	for _, c := range []struct {
		r    api.Rec
		want int
	}{
		{piece(1<<40, 511, make([]byte, 4096)), 4105},
		{root(longKey(), 1<<40, locs(512, 128)...), 5197},
		{inline(longKey(), make([]byte, 4096)), 4162},
		{tomb(longKey()), 65},
		{tomb("a"), 2},
	} {
		if n := len(rec.Put(c.r)); n != c.want {
			t.Errorf("kind %d: %d bytes, want %d", c.r.Kind, n, c.want)
		}
	}
}

// P4.1, D1: a kind that is none, though its lowest byte may be one.
func TestNoKind(t *testing.T) {
	for _, like := range []api.Rec{piece(1, 2, []byte("x")), root("k", 1, api.Loc{N: 1}), inline("k", []byte("x")), tomb("k"), {}} {
		for _, kind := range []int{0, -1, -4, 5, 6, 7, 9, 255, 256, 257, 258, 259, 260, 1<<16 + 1, 1<<32 + 2, -252, math.MinInt, math.MaxInt} {
			r := like
			r.Kind = kind
			expectWrong(t, "no kind", r)
		}
		for kind := range 6 { // what is right for its own kind is so for no other one
			if r := like; kind != like.Kind {
				r.Kind = kind
				if kind == api.Inline && like.Kind == api.Tomb { // an inline of nothing
					expect(t, r, written(r))
				} else {
					expectWrong(t, "another kind's", r)
				}
			}
		}
	}
}

// P4.1, D1: each number just outside of where it may be, and far from there.
func TestNumbersThatMayNotBe(t *testing.T) {
	for _, id := range []int64{-1, -2, 1<<40 + 1, 1<<40 + 2, 1 << 41, 1<<48 - 1, 1 << 48, 1<<48 + 5, math.MaxInt64, math.MinInt64, -1 << 40} {
		expectWrong(t, "Id", piece(id, 0, []byte("x")))
		expectWrong(t, "Id", root("k", id, api.Loc{N: 1}))
	}
	for _, no := range []int{-1, 512, 513, 65535, 65536, 65537, 1<<32 + 1, math.MaxInt, math.MinInt} {
		expectWrong(t, "No", piece(1, no, []byte("x")))
	}
	for _, n := range []int{-1, 100000000, 100000001, 1<<32 - 1, 1 << 32, 1<<32 + 7, math.MaxInt, math.MinInt} {
		expectWrong(t, "Seg", root("k", 1, api.Loc{Seg: n, N: 1}))
		expectWrong(t, "Seg of the last one", root("k", 1, api.Loc{N: 1}, api.Loc{N: 1}, api.Loc{Seg: n, N: 1}))
	}
	for _, n := range []int{-1, 1<<30 + 1, 1 << 31, 1<<32 - 1, 1 << 32, 1<<32 + 7, math.MaxInt, math.MinInt} {
		expectWrong(t, "At", root("k", 1, api.Loc{At: n, N: 1}))
		expectWrong(t, "At of the first one", root("k", 1, api.Loc{At: n, N: 1}, api.Loc{N: 1}))
	}
	for _, n := range []int{0, -1, -4096, 4097, 5000, 65535, 65536, 1<<16 + 1, math.MaxInt, math.MinInt} {
		expectWrong(t, "N", root("k", 1, api.Loc{N: n}))
		expectWrong(t, "N of the second one", root("k", 1, api.Loc{N: 4000}, api.Loc{N: n}, api.Loc{N: 4000}))
	}
}

// P4.1, D1: bytes and keys that are too long, or too short.
func TestLengthsThatMayNotBe(t *testing.T) {
	for _, n := range []int{4097, 4098, 8192, 65536, 65537} {
		expectWrong(t, "a long piece", piece(1, 1, make([]byte, n)))
		expectWrong(t, "a long inline", inline("k", make([]byte, n)))
	}
	for _, b := range [][]byte{nil, {}, make([]byte, 0, 9)} {
		expectWrong(t, "a piece of nothing", piece(1, 1, b))
	}
	for _, n := range []int{0, 65, 66, 255, 256, 257, 320, 65536 + 1} {
		key := strings.Repeat("k", n)
		expectWrong(t, "no key", root(key, 1, api.Loc{N: 1}))
		expectWrong(t, "no key", inline(key, []byte("x")))
		expectWrong(t, "no key", tomb(key))
	}
}

// P4.1, D1: a root whose size is not that of its pieces, or is none; and too many pieces, or none.
func TestSizesThatMayNotBe(t *testing.T) {
	for _, l := range [][]api.Loc{{{N: 1}}, {{N: 4096}}, {{N: 5}, {N: 7}}, locs(512, 128)} {
		for _, more := range []int{-1, 1, -65536, 65536, 1 << 24, 1 << 32, math.MinInt, math.MaxInt - 65536} {
			r := root("k", 1, l...)
			r.Size += more
			expectWrong(t, "a size that is not the pieces'", r)
		}
	}
	expectWrong(t, "65537 bytes", root("k", 1, append(locs(16, 4096), api.Loc{N: 1})...))
	expectWrong(t, "512 long pieces", root("k", 1, locs(512, 4096)...))
	for _, n := range []int{513, 514, 1024, 65535, 65536, 65537} {
		expectWrong(t, "too many pieces", root("k", 1, locs(n, 1)...))
	}
	for _, l := range [][]api.Loc{nil, {}} {
		for _, size := range []int{0, 1, -1, 65536} {
			expectWrong(t, "no pieces", api.Rec{Kind: api.Root, Key: "k", Id: 1, Size: size, Locs: l})
		}
	}
	// Sums that are right, though one of the pieces is not, and sums that wrap round.
	expectWrong(t, "a sum with a negative one", root("k", 1, api.Loc{N: 4096}, api.Loc{N: -1}))
	expectWrong(t, "a sum that wraps round", root("k", 1, api.Loc{N: math.MaxInt}, api.Loc{N: math.MaxInt}, api.Loc{N: 4}))
}

// P4.1, D1: all that a kind does not have is zero; an empty list is so, too.
func TestWhatAKindDoesNotHave(t *testing.T) {
	turn := map[string]func(*api.Rec){
		"Key":  func(r *api.Rec) { r.Key = "z" },
		"Id":   func(r *api.Rec) { r.Id = 1 },
		"No":   func(r *api.Rec) { r.No = 1 },
		"Size": func(r *api.Rec) { r.Size = 1 },
		"Locs": func(r *api.Rec) { r.Locs = []api.Loc{{N: 1}} },
		"B":    func(r *api.Rec) { r.B = []byte{1} },
	}
	for _, c := range []struct {
		r   api.Rec
		has string
	}{
		{piece(1, 1, []byte("x")), "Id No B"},
		{root("k", 1, api.Loc{N: 1}), "Key Id Size Locs"},
		{inline("k", []byte("x")), "Key B"},
		{inline("k", nil), "Key B"},
		{tomb("k"), "Key"},
	} {
		for field, change := range turn {
			r := c.r
			change(&r)
			if slices.Contains(strings.Fields(c.has), field) {
				expect(t, r, written(r))
			} else {
				expectWrong(t, field+" that the kind does not have", r)
			}
		}
	}
	for _, more := range []int{-1, 2, 512, math.MinInt, math.MaxInt} {
		for _, r := range []api.Rec{inline("k", []byte("x")), tomb("k")} {
			one, two, three := r, r, r
			one.Id, two.No, three.Size = int64(more), more, more
			expectWrong(t, "Id", one)
			expectWrong(t, "No", two)
			expectWrong(t, "Size", three)
		}
		p, q := piece(1, 1, []byte("x")), root("k", 1, api.Loc{N: 1})
		p.Size, q.No = more, more
		expectWrong(t, "a piece's Size", p)
		expectWrong(t, "a root's No", q)
	}
	sizeless := piece(1, 1, []byte("x")) // a Locs that would be a right one of nothing
	sizeless.Locs = []api.Loc{{}}
	expectWrong(t, "a piece's empty Loc", sizeless)
	for _, r := range []api.Rec{piece(1, 1, []byte("x")), inline("k", []byte("x")), tomb("k")} {
		r.Locs = []api.Loc{}
		expect(t, r, written(r))
	}
	r, d := root("k", 1, api.Loc{N: 1}), tomb("k")
	r.B, d.B = []byte{}, make([]byte, 0, 8)
	expect(t, r, written(r))
	expect(t, d, written(d))
}

// row is numbers, as bytes, and texts, one behind the other.
func row(parts ...string) []byte { return []byte(strings.Join(parts, "")) }

// P4.1, D2: bytes that are laid out as a record's, but whose record would not be right.
func TestGetOfWrongRecords(t *testing.T) {
	num := func(n uint64, size int) string { return string(high(n, size)) }
	for _, id := range []uint64{1<<40 + 1, 1 << 41, 1 << 47, 1<<48 - 1} {
		expectNone(t, "Id", row("\x01", num(id, 6), num(1, 2), "x"))
		expectNone(t, "Id", row("\x02\x01k", num(id, 6), num(1, 3), num(1, 2), num(0, 4), num(0, 4), num(1, 2)))
	}
	for _, no := range []uint64{512, 513, 1024, 1<<16 - 1} {
		expectNone(t, "No", row("\x01", num(1, 6), num(no, 2), "x"))
	}
	for _, n := range []int{4097, 4098, 8192, 1 << 20} {
		expectNone(t, "a long piece", row("\x01", num(1, 6), num(1, 2), strings.Repeat("x", n)))
		expectNone(t, "a long inline", row("\x03\x01k", strings.Repeat("x", n)))
	}
	for _, n := range []int{0, 65, 66, 255} {
		key := strings.Repeat("k", n)
		expectNone(t, "no key", row("\x02", num(uint64(n), 1), key, num(1, 6), num(1, 3), num(1, 2), num(0, 4), num(0, 4), num(1, 2)))
		expectNone(t, "no key", row("\x03", num(uint64(n), 1), key, "xy"))
		expectNone(t, "no key", row("\x04", key))
	}
	expectNone(t, "a long tomb", row("\x04", strings.Repeat("k", 1<<20)))
	for _, c := range []struct{ size, seg, at, n uint64 }{
		{1, 100000000, 0, 1}, {1, 1<<32 - 1, 0, 1}, {1, 1 << 31, 0, 1},
		{1, 0, 1<<30 + 1, 1}, {1, 0, 1<<32 - 1, 1}, {1, 0, 1 << 31, 1},
		{0, 0, 0, 0}, {4097, 0, 0, 4097}, {65535, 0, 0, 65535},
		{2, 0, 0, 1}, {0, 0, 0, 1}, {1, 0, 0, 2}, {1<<16 + 1, 0, 0, 1}, {1<<24 - 1, 0, 0, 1},
	} {
		expectNone(t, "a Loc", row("\x02\x01k", num(1, 6), num(c.size, 3), num(1, 2), num(c.seg, 4), num(c.at, 4), num(c.n, 2)))
	}
	one := num(0, 4) + num(0, 4) + num(1, 2)
	for _, n := range []int{513, 1000, 65535} {
		expectNone(t, "too many pieces", row("\x02\x01k", num(1, 6), num(uint64(n), 3), num(uint64(n), 2), strings.Repeat(one, n)))
	}
	expectNone(t, "65537 bytes", row("\x02\x01k", num(1, 6), num(65537, 3), num(17, 2), strings.Repeat(num(0, 4)+num(0, 4)+num(4096, 2), 16), one))
	expectNone(t, "no pieces", row("\x02\x01k", num(1, 6), num(0, 3), num(0, 2)))
	expectNone(t, "no pieces, but a size", row("\x02\x01k", num(1, 6), num(1, 3), num(0, 2)))
	for _, n := range []uint64{0, 2, 3, 512, 65535} {
		expectNone(t, "another count", row("\x02\x01k", num(1, 6), num(1, 3), num(n, 2), one))
		expectNone(t, "another count", row("\x02\x01k", num(1, 6), num(n, 3), num(n, 2), one))
	}
}

// P4.1, D2: no bytes, and those that begin with no kind.
func TestGetOfNoKind(t *testing.T) {
	expectNone(t, "nil", nil)
	expectNone(t, "no bytes", []byte{})
	for _, r := range rights() {
		b := written(r)
		for kind := range 256 {
			if kind < 1 || kind > 4 {
				b[0] = byte(kind)
				expectNone(t, "no kind", b)
				expectNone(t, "no kind, alone", b[:1])
			}
		}
	}
}

// read is the record that the document has bytes have: each right one that could have them is written, and held against them.
func read(b []byte) (api.Rec, bool) {
	for _, r := range guesses(b) {
		if rightByTheTable(r) && bytes.Equal(written(r), b) {
			return r, true
		}
	}
	return api.Rec{}, false
}

// guesses are the records that bytes may have, by where each part would stand.
func guesses(b []byte) []api.Rec {
	low := func(from, to int) uint64 {
		n := uint64(0)
		for i := from; i < to; i++ {
			n *= 256
			if i < len(b) {
				n += uint64(b[i])
			}
		}
		return n
	}
	from := func(i, j int) []byte { return b[min(i, len(b)):min(max(i, j), len(b))] }
	if len(b) == 0 {
		return nil
	}
	key, behind := string(from(2, 2+int(low(1, 2)))), 2+int(low(1, 2))
	r := api.Rec{Kind: 2, Key: key, Id: int64(low(behind, behind+6)), Size: int(low(behind+6, behind+9))}
	for at := behind + 11; at+10 <= len(b); at += 10 {
		r.Locs = append(r.Locs, api.Loc{Seg: int(low(at, at+4)), At: int(low(at+4, at+8)), N: int(low(at+8, at+10))})
	}
	return []api.Rec{
		{Kind: 1, Id: int64(low(1, 7)), No: int(low(7, 9)), B: from(9, len(b))}, r,
		{Kind: 3, Key: key, B: from(behind, len(b))}, {Kind: 4, Key: string(b[1:])},
	}
}

// rightByTheTable is whether a guess is right; what its kind does not have is zero in it.
func rightByTheTable(r api.Rec) bool {
	sum, all := 0, r.Id >= 0 && r.Id <= 1099511627776 && r.No >= 0 && r.No <= 511 && len(r.Locs) <= 512
	for _, l := range r.Locs {
		sum += l.N
		all = all && l.Seg >= 0 && l.Seg <= 99999999 && l.At >= 0 && l.At <= 1073741824 && l.N >= 1 && l.N <= 4096
	}
	key := len(r.Key) >= 1 && len(r.Key) <= 64
	switch r.Kind {
	case 1:
		return all && len(r.B) >= 1 && len(r.B) <= 4096
	case 2:
		return all && key && r.Size >= 1 && r.Size <= 65536 && sum == r.Size
	case 3:
		return all && key && len(r.B) <= 4096
	}
	return all && key
}

// expectAsRead tells if what Get has of bytes is not what the document has; or is not right, or has other bytes.
func expectAsRead(t *testing.T, what string, b []byte) {
	t.Helper()
	want, there := read(b)
	got, is := rec.Get(b)
	if is != there || !same(got, want) {
		t.Errorf("%s: % x: %v, %s, want %v, %s", what, b[:min(len(b), 40)], is, brief(got), there, brief(want))
	}
	if is && (!rec.Right(got) || !bytes.Equal(rec.Put(got), b)) {
		t.Errorf("%s: % x: what is got has other bytes, or is not right", what, b[:min(len(b), 40)])
	}
}

// P4.2: all rows of up to two bytes, and of three that begin with a kind.
func TestShortBytes(t *testing.T) {
	expectAsRead(t, "no byte", nil)
	for i := range 256 {
		expectAsRead(t, "one byte", []byte{byte(i)})
		for j := range 256 {
			expectAsRead(t, "two bytes", []byte{byte(i), byte(j)})
			if i < 5 {
				expectAsRead(t, "three bytes", []byte{byte(i), byte(j), 1})
			}
		}
	}
}

// P4.2: a record's bytes, cut anywhere, and with more behind them.
func TestCutAndLongerBytes(t *testing.T) {
	for _, r := range rights() {
		b := written(r)
		step := 1 + len(b)/200
		for n := 0; n < len(b); n += step {
			expectAsRead(t, "cut", b[:n])
		}
		expectAsRead(t, "cut", b[:len(b)-1])
		for _, more := range []int{1, 2, 9, 10, 11, 4096} {
			expectAsRead(t, "zeros behind", slices.Concat(b, make([]byte, more)))
			expectAsRead(t, "bytes behind", slices.Concat(b, body(more, uint64(more))))
		}
	}
}

// P4.2: a record's bytes of which some have turned.
func TestTurnedBytes(t *testing.T) {
	for i, r := range rights() {
		b := written(r)
		for at := range min(len(b), 40) {
			for _, turn := range []byte{1, 2, 4, 8, 16, 32, 64, 128, 255, byte(i)} {
				b[at] ^= turn
				expectAsRead(t, "turned", b)
				b[at] ^= turn
			}
		}
	}
}

// P4.2; P1: bytes that look like no pattern; most begin with a kind.
func TestAnyBytes(t *testing.T) {
	c := chance(5)
	for seed := range uint64(20000) {
		b := body(c.below(60), seed)
		if len(b) > 3 && seed%8 > 0 {
			b[0] = byte(1 + seed%4)
			b[1] = byte(c.below(20))
			if seed%3 == 0 {
				clear(b[2 : 2+c.below(len(b)-2)])
			}
		}
		expectAsRead(t, "any bytes", b)
	}
}

// P4.2: unlike records have unlike bytes.
func TestUnlikeRecords(t *testing.T) {
	of := map[string]api.Rec{}
	for _, r := range rights() {
		b := string(rec.Put(r))
		if other, is := of[b]; is && !same(other, r) {
			t.Errorf("%s and %s have the same bytes", brief(other), brief(r))
		}
		of[b] = r
	}
}

// P1, P2: of what may not be nothing is told, however odd it is.
func TestOddArguments(t *testing.T) {
	odd := []int{math.MinInt, -1, 0, 1, 4, 5, 511, 512, 4096, 65536, 99999999, 1 << 30, math.MaxInt}
	for _, kind := range odd {
		for i, x := range odd {
			y, z := odd[(i+1)%len(odd)], odd[(i+5)%len(odd)]
			for _, r := range []api.Rec{
				{Kind: kind, Id: int64(x), No: y, Size: z},
				{Kind: kind, Key: "k", Id: int64(x), Size: y, Locs: []api.Loc{{Seg: x, At: y, N: z}, {Seg: z, At: x, N: y}}},
				{Kind: kind, Key: "k", Id: int64(x), No: y, Size: z, Locs: make([]api.Loc, 3), B: make([]byte, 3)},
			} {
				if b := rec.Put(r); rec.Right(r) != (len(b) > 0) {
					t.Errorf("%s: %d bytes, but Right tells otherwise", brief(r), len(b))
				}
			}
		}
	}
	for _, b := range [][]byte{{1}, {2}, {3}, {4}, {2, 255}, {3, 255}, bytes.Repeat([]byte{2}, 1<<20), bytes.Repeat([]byte{1}, 1<<20), bytes.Repeat([]byte{255}, 1<<20), append([]byte("\x02\x01k\x00\x00\x00\x00\x00\x01\x00\x00\x05"), bytes.Repeat([]byte{255}, 1<<20)...)} {
		expectNone(t, "odd bytes", b)
	}
}

// P3: what is handed in, and its spare room, is as it was.
func TestArgumentsStay(t *testing.T) {
	for _, r := range rights() {
		room, places := append(bytes.Clone(r.B), body(40, 7)...), append(slices.Clone(r.Locs), locs(9, 5)...)
		b, l := bytes.Clone(room), slices.Clone(places)
		r.B, r.Locs = room[:len(r.B)], places[:len(r.Locs)]
		rec.Right(r)
		in := append(rec.Put(r), body(40, 8)...)
		n, ahead := len(in)-40, bytes.Clone(in)
		rec.Get(in[:n])
		rec.Get(in[:n-1])
		if !bytes.Equal(room, b) || !slices.Equal(places, l) || !bytes.Equal(in, ahead) {
			t.Errorf("kind %d: an argument has changed", r.Kind)
		}
	}
}

// fill writes over a list's items, its spare room too.
func fill[E any](l []E, with E) {
	l = l[:cap(l)]
	for i := range l {
		l[i] = with
	}
}

// P3: an answer is new memory, its spare room too.
func TestAnswersAreNew(t *testing.T) {
	for _, r := range rights() {
		want := written(r)
		one, two := rec.Put(r), rec.Put(r)
		fill(one, 7)
		if !bytes.Equal(two, want) || !bytes.Equal(rec.Put(r), want) {
			t.Errorf("kind %d: Put's answer is shared", r.Kind)
		}
		in := append(bytes.Clone(want), 1, 2, 3)[:len(want)]
		got, _ := rec.Get(in)
		other, _ := rec.Get(in)
		fill(got.B, 7)
		fill(got.Locs, api.Loc{N: 7})
		if !bytes.Equal(in, want) || !bytes.Equal(in[:len(want)+3][len(want):], []byte{1, 2, 3}) || !same(other, r) {
			t.Errorf("kind %d: Get's answer is shared", r.Kind)
		}
		fill(in, 9)
		if !same(other, r) {
			t.Errorf("kind %d: Get's answer is the argument's memory", r.Kind)
		}
	}
}

// P3: an answer hangs on the argument alone: not on other calls, and not on spare room.
func TestAnswersHangOnArgumentsAlone(t *testing.T) {
	all := rights()
	for range 2 {
		for i, r := range all {
			expect(t, r, written(r))
			rec.Get(written(all[len(all)-1-i])[1:])
			rec.Put(api.Rec{Kind: i % 6, B: r.B, Locs: r.Locs})
			rec.Key(r.Key + "z")
		}
	}
	for _, r := range all {
		b := written(r)
		for _, behind := range [][]byte{make([]byte, 100), body(100, 1), bytes.Repeat([]byte{1}, 4096)} {
			expectAsRead(t, "with spare room", slices.Concat(b, behind)[:len(b)])
			expectAsRead(t, "cut, with spare room", slices.Concat(b, behind)[:len(b)-1])
		}
	}
}
