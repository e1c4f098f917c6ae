package keys_test

import (
	"hash/adler32"
	"hash/crc32"
	"hash/fnv"
	"strconv"
	"strings"
	"testing"
)

// oddKeys are keys of no bytes, of each byte, of bytes that are no text's, that begin alike, or end alike, and long ones.
func oddKeys() []string {
	l := []string{"", "\x00\x00", "\x00\x00\x00", "a\x00", "a\x00\x00", "\x00a", "aa", "ab", "ba", "aaa", "aab", "\xff\xff", "\xff\x00", "\x00\xff", "\x7f\x80", "\x80\x7f", "\xc3\xa4", "\xe2\x82\xac", "\xed\xa0\x80", "\xf4\x90\x80\x80", "\ufffd", "a\xff", "a\x80", "z\xff"}
	for b := range 256 {
		l = append(l, string([]byte{byte(b)}))
	}
	for n := 60; n < 70; n++ {
		l = append(l, strings.Repeat("k", n), strings.Repeat("\x00", n), strings.Repeat("\xff", n), strings.Repeat("k", n)+"\x80")
	}
	long := strings.Repeat("long ", 20000)
	return append(l, long, long+"\x00", long[1:], "L"+long[1:], long[:len(long)-1], long[:len(long)-1]+"!")
}

// near are texts that are not far from a key.
func near(key string) []string {
	l := []string{key + "\x00", key + key + "x", "\x00" + key}
	if n := len(key) - 1; n >= 0 {
		l = append(l, key[:n], key[1:], key[:n]+string([]byte{key[n] + 1}), key[:n]+string([]byte{key[n] - 1}), key[:n]+string([]byte{key[n] ^ 0x80}))
	}
	return l
}

// families are many keys of several kinds: numbers, such as begin alike, or end alike, such as few bits of each byte tell apart, long ones, and any bytes.
func families(n int) map[string]func(i int) string {
	c := chance(n)
	noise := make([]byte, n+8)
	for i := range noise {
		noise[i] = byte(c.below(256))
	}
	bits := func(i int, zero, one byte) string {
		b := make([]byte, 18)
		for k := range b {
			b[k] = zero
			if i>>k&1 == 1 {
				b[k] = one
			}
		}
		return string(b)
	}
	return map[string]func(i int) string{
		"numbers":        strconv.Itoa,
		"from the left":  func(i int) string { return strings.Repeat("begin alike ", 5) + strconv.Itoa(i) },
		"from the right": func(i int) string { return strconv.Itoa(i) + strings.Repeat(" end alike", 5) },
		"high bytes":     func(i int) string { return string([]byte{byte(i >> 16), byte(i >> 8), byte(i)}) },
		"low bytes":      func(i int) string { return string([]byte{byte(i), byte(i >> 8), byte(i >> 16)}) },
		"highest bits":   func(i int) string { return bits(i, 0, 0x80) },
		"two high bits":  func(i int) string { return bits(i, 0x40, 0xc0) },
		"lowest bits":    func(i int) string { return bits(i, 0xfe, 0xff) },
		"zeros":          func(i int) string { return strings.Repeat("\x00", i%2000) + strconv.Itoa(i/2000) },
		"any":            func(i int) string { return string(noise[i:i+7]) + strconv.Itoa(i) },
	}
}

// orders are so many numbers, in several orders.
func orders(n int) [][]int {
	up, down, mixed := make([]int, n), make([]int, n), make([]int, n)
	c := chance(n)
	for i := range n {
		up[i], down[i] = i, n-1-i
		at := c.below(i + 1)
		mixed[i] = mixed[at]
		mixed[at] = i
	}
	return [][]int{up, down, mixed}
}

// hashes are ways to hash keys, all of which go through a key byte by byte: the directory's own, and what others there might be.
func hashes() map[string]func(key string) uint32 {
	fnv1a := func(key string) uint32 {
		h := fnv.New32a()
		h.Write([]byte(key))
		return h.Sum32()
	}
	return map[string]func(key string) uint32{
		"own": func(key string) uint32 {
			h := fnv1a(key)
			h = (h ^ h>>16) * 0x85ebca6b
			return h ^ h>>13
		},
		"fnv-1a": fnv1a,
		"fnv-1": func(key string) uint32 {
			h := fnv.New32()
			h.Write([]byte(key))
			return h.Sum32()
		},
		"times 31": func(key string) uint32 {
			h := uint32(0)
			for i := range len(key) {
				h = h*31 + uint32(key[i])
			}
			return h
		},
		"sum":        func(key string) uint32 { return adler32.Checksum([]byte(key)) },
		"castagnoli": func(key string) uint32 { return crc32.Checksum([]byte(key), crc32.MakeTable(crc32.Castagnoli)) },
	}
}

// alike are keys of which all are hashed alike: each of their parts is one of two, behind either of which a hash goes on alike.
func alike(t *testing.T, hash func(key string) uint32, parts int) []string {
	t.Helper()
	all := []string{""}
	for range parts {
		x, y := twoAlike(t, hash, all[0])
		var longer []string
		for _, key := range all {
			longer = append(longer, key+x, key+y)
		}
		all = longer
	}
	for _, key := range all {
		if hash(key) != hash(all[0]) {
			t.Fatalf("%q is not hashed as %q is", key, all[0])
		}
	}
	return all
}

// twoAlike are two parts that, behind a text, have it be hashed alike. They are as long as it takes for there to be such, in every way of hashing.
func twoAlike(t *testing.T, hash func(key string) uint32, ahead string) (string, string) {
	t.Helper()
	seen := map[uint32]string{}
	c := chance(3)
	for range 1 << 20 {
		b := make([]byte, 6)
		for i := range b {
			b[i] = byte(c.below(256))
		}
		h := hash(ahead + string(b))
		if other, is := seen[h]; is && other != string(b) {
			return other, string(b)
		}
		seen[h] = string(b)
	}
	t.Fatal("no two are hashed alike")
	return "", ""
}
