package keys

// What hashes are made with: numbers that are known to have like texts have unlike ones.
const (
	hashBegin = 0x811c9dc5
	hashStep  = 0x01000193
	hashMix   = 0x85ebca6b
)

// hashOf is a number that hangs on a key's bytes alone.
func hashOf(key string) uint32 {
	h := uint32(hashBegin)
	for i := range len(key) {
		h = (h ^ uint32(key[i])) * hashStep
	}
	// Up to here the lowest bits, which tell the row, hang on the lowest bits of the bytes alone.
	h = (h ^ h>>16) * hashMix
	return h ^ h>>13
}
