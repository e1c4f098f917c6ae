package rec

import (
	"bytes"

	"souterrain/api"
)

// How many bytes each number takes.
const (
	keyBytes   = 1
	idBytes    = 6
	noBytes    = 2
	sizeBytes  = 3
	countBytes = 2
	segBytes   = 4
	atBytes    = 4
	nBytes     = 2
)

// made is a record's bytes, so far as they were put.
type made []byte

// number puts a number's lowest bytes, the highest of them first.
func (m made) number(n int64, size int) made {
	for i := size - 1; i >= 0; i-- {
		m = append(m, byte(n>>(8*i)))
	}
	return m
}

// key puts a key behind its length, as something else follows.
func (m made) key(k string) made {
	return append(m.number(int64(len(k)), keyBytes), k...)
}

func (r record) putPiece(m made) made {
	m = m.number(r.Id, idBytes).number(int64(r.No), noBytes)
	return append(m, r.B...)
}

func (r record) putRoot(m made) made {
	m = m.key(r.Key).number(r.Id, idBytes).number(int64(r.Size), sizeBytes).number(int64(len(r.Locs)), countBytes)
	for _, l := range r.Locs {
		m = m.number(int64(l.Seg), segBytes).number(int64(l.At), atBytes).number(int64(l.N), nBytes)
	}
	return m
}

func (r record) putInline(m made) made { return append(m.key(r.Key), r.B...) }

func (r record) putTomb(m made) made { return append(m, r.Key...) }

// source is bytes of which a record is got, part by part. Once a part was not there whole all that is got is nothing, so that it is enough to ask in the end.
type source struct {
	left  []byte
	short bool
}

// usedUp is whether all parts were there, and nothing else.
func (s *source) usedUp() bool { return !s.short && len(s.left) == 0 }

// take is the next n bytes. They are still those that were handed in.
func (s *source) take(n int) []byte {
	if s.short || n > len(s.left) {
		s.short = true
		return nil
	}
	part := s.left[:n]
	s.left = s.left[n:]
	return part
}

func (s *source) rest() []byte { return s.take(len(s.left)) }

func (s *source) number(size int) int64 {
	n := int64(0)
	for _, c := range s.take(size) {
		n = n<<8 | int64(c)
	}
	return n
}

func (s *source) key() string { return string(s.take(int(s.number(keyBytes)))) }

// locs stops where bytes end: there may be far fewer than the number of them says.
func (s *source) locs() []api.Loc {
	var all []api.Loc
	for range s.number(countBytes) {
		l := api.Loc{Seg: int(s.number(segBytes)), At: int(s.number(atBytes)), N: int(s.number(nBytes))}
		if s.short {
			return nil
		}
		all = append(all, l)
	}
	return all
}

func (s *source) piece() record {
	id, no := s.number(idBytes), s.number(noBytes)
	return record{Id: id, No: int(no), B: bytes.Clone(s.rest())}
}

func (s *source) root() record {
	key, id, size := s.key(), s.number(idBytes), s.number(sizeBytes)
	return record{Key: key, Id: id, Size: int(size), Locs: s.locs()}
}

func (s *source) inline() record {
	key := s.key()
	return record{Key: key, B: bytes.Clone(s.rest())}
}

func (s *source) tomb() record { return record{Key: string(s.rest())} }
