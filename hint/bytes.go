package hint

import (
	"bytes"

	"souterrain/api"
	"souterrain/frame"
	"souterrain/scan"
	"souterrain/sum"
)

// lastByte is what the body behind all hints begins with. It is no record's kind, so that no hint's body does: of bytes that are cut none stands last.
const lastByte = 7

// How many bytes tell each number.
const (
	kindBytes  = 1
	atBytes    = 4
	sizeBytes  = 2
	countBytes = 4
	segBytes   = 4
	sumBytes   = 4
)

// Where in a hint's body its place, its size and its key begin.
const (
	atFrom   = kindBytes
	sizeFrom = atFrom + atBytes
	keyFrom  = sizeFrom + sizeBytes
)

// Put is the bytes of a segment's hints, of one that is size long; nothing, if they are not right, or none is so long.
func Put(l []api.Hint, size int) []byte {
	if !Right(l) || !rightSize(size) {
		return nil
	}
	var b []byte
	for _, h := range l {
		b = append(b, frame.Put(body(h))...)
	}
	return append(b, frame.Put(lastBody(len(l), size, b))...)
}

// Get is the right hints whose bytes these are, of a segment that is size long, if there are any. All of b is told by its frames' bodies, if none was passed by and nothing is left: so it is enough to hold these against what Put makes.
func Get(b []byte, size int) ([]api.Hint, bool) {
	bodies, passed, _, err := scan.All(b)
	if !rightSize(size) || passed > 0 || err != api.OK || len(bodies) == 0 {
		return nil, false
	}
	end := len(bodies) - 1
	l, last := told(bodies[:end]), bodies[end]
	if !Right(l) || !bytes.Equal(last.B, lastBody(len(l), size, b[:last.At])) {
		return nil, false
	}
	return l, true
}

// rightSize is whether a segment may be so long. What four bytes can't hold is none, so that no two lengths have the same bytes.
func rightSize(size int) bool { return within(size, 0, api.MaxAt) }

// body is what stands in a right hint's frame.
func body(h api.Hint) []byte {
	b := number(nil, h.Kind, kindBytes)
	b = number(b, h.At, atBytes)
	b = number(b, h.Size, sizeBytes)
	return append(b, h.Key...)
}

// lastBody is what stands in the frame behind all hints, whose frames are ahead. Its sum is of all of them at once, since a frame's own need not find a length that has turned into another frame's.
func lastBody(count int, size int, ahead []byte) []byte {
	b := []byte{lastByte}
	b = number(b, count, countBytes)
	b = number(b, size, segBytes)
	return number(b, int(sum.Of(sum.Table(), ahead)), sumBytes)
}

// told are the hints that bodies tell, be they right or not.
func told(bodies []api.Item) []api.Hint {
	var l []api.Hint
	for _, it := range bodies {
		l = append(l, toldOne(it.B))
	}
	return l
}

// toldOne is the hint that a body tells. One that ends too early tells a zero one, which is not right.
func toldOne(body []byte) api.Hint {
	if len(body) < keyFrom {
		return api.Hint{}
	}
	return api.Hint{
		Kind: numberOf(body[:atFrom]),
		Key:  string(body[keyFrom:]),
		At:   numberOf(body[atFrom:sizeFrom]),
		Size: numberOf(body[sizeFrom:keyFrom]),
	}
}

// number puts a number behind bytes, in so many of them, the highest first.
func number(b []byte, n int, size int) []byte {
	for i := size - 1; i >= 0; i-- {
		b = append(b, byte(n>>(8*i)))
	}
	return b
}

// numberOf is what bytes tell, the highest first.
func numberOf(b []byte) int {
	n := 0
	for _, c := range b {
		n = n<<8 | int(c)
	}
	return n
}
