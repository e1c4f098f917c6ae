// Package sum is layer 1: sums of four bytes, by a table that is handed in.
package sum

// feedback is the Castagnoli polynomial, its lowest bit the one of the highest power: bits fall off to the right.
const feedback = 0x82F63B78

// Table is what each byte makes of a sum.
func Table() [256]uint32 {
	var t [256]uint32
	for n := range 256 {
		t[n] = entry(uint32(n))
	}
	return t
}

// entry is what one number comes to, its eight bits having fallen off.
func entry(n uint32) uint32 {
	for range 8 {
		fell := n&1 == 1
		n >>= 1
		if fell {
			n ^= feedback
		}
	}
	return n
}

// Of is the sum of bytes, by a table.
func Of(t [256]uint32, b []byte) uint32 { return On(t, 0, b) }

// On goes on with a sum. All bits are turned at both ends, so that zeros ahead of other bytes count, and what one call turned in the end the next one turns back.
func On(t [256]uint32, s uint32, b []byte) uint32 {
	s = ^s
	for _, c := range b {
		s = s>>8 ^ t[byte(s)^c]
	}
	return ^s
}
