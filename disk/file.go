package disk

// file is bytes, of which the first ones are kept.
type file struct {
	made  int // how many were made ahead of it
	bytes []byte
	kept  int
}

// keep has all bytes be kept.
func (f *file) keep() { f.kept = len(f.bytes) }

// lose has those bytes be there that are kept, and some of the others: as many as stand in a list at the file's place, that goes on from its beginning. All that are there are kept then.
func (f *file) lose(list []int) {
	more := 0
	if len(list) > 0 {
		more = list[f.made%len(list)]
	}
	more = min(max(more, 0), len(f.bytes)-f.kept)
	f.bytes = f.bytes[:f.kept+more]
	f.keep()
}

// flip has those bits turn that bits has, its lowest one that at a place that is in the file. Those behind the file's end count for nothing.
func (f *file) flip(at int, bits uint32) {
	turn := uint64(bits) << (at % 8)
	for i := at / 8; i < len(f.bytes) && turn > 0; i++ {
		f.bytes[i] ^= byte(turn)
		turn >>= 8
	}
}
