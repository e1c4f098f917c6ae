package keys

import (
	"slices"
	"strings"

	"souterrain/api"
)

// mostInCell is how many places a row has, at most, for each of its cells.
const mostInCell = 4

// row is places, each in the cell that its key's hash tells, and how many they are.
type row struct {
	cells [][]api.Place
	many  int
}

// get is a key's place, if it stands in the row.
func (r *row) get(key string) (api.Place, bool) {
	cell, i := r.find(key)
	if i < 0 {
		return api.Place{}, false
	}
	return r.cells[cell][i], true
}

// put has a place stand in the row, as its key's: the one that stood there, if one did.
func (r *row) put(p api.Place) (api.Place, bool) {
	cell, i := r.find(p.Hint.Key)
	if i >= 0 {
		was := r.cells[cell][i]
		// The text that is here already tells the same.
		p.Hint.Key = was.Hint.Key
		r.cells[cell][i] = p
		return was, true
	}
	// The text that is handed in may be a small part of a long one, which would be kept with it.
	p.Hint.Key = strings.Clone(p.Hint.Key)
	r.cells[cell] = append(r.cells[cell], p)
	r.many++
	r.fit()
	return api.Place{}, false
}

// del has a key stand in the row no more: its place, if it had one.
func (r *row) del(key string) (api.Place, bool) {
	cell, i := r.find(key)
	if i < 0 {
		return api.Place{}, false
	}
	was := r.cells[cell][i]
	r.cells[cell] = slices.Delete(r.cells[cell], i, i+1)
	r.many--
	r.fit()
	return was, true
}

// find is the cell that a key's hash tells, and as which one the key stands in it: below 0, if it doesn't.
func (r *row) find(key string) (int, int) {
	cell := r.cell(key)
	return cell, slices.IndexFunc(r.cells[cell], func(p api.Place) bool { return p.Hint.Key == key })
}

// cell is the cell that a key's hash tells. What told the row is alike for all keys of it, and so tells no cell.
func (r *row) cell(key string) int { return int(hashOf(key) / rowCount % uint32(len(r.cells))) }

// fit has the row have more cells when they are full, and fewer when they are empty, so that nothing takes longer for what once stood there.
func (r *row) fit() {
	switch cells := len(r.cells); {
	case r.many > mostInCell*cells:
		r.spread(2 * cells)
	case r.many < cells && cells > 1:
		r.spread(cells / 2)
	}
}

// spread has all that stands in the row stand in so many cells.
func (r *row) spread(cells int) {
	from := *r
	r.cells = make([][]api.Place, cells)
	from.each(func(p api.Place) {
		cell := r.cell(p.Hint.Key)
		r.cells[cell] = append(r.cells[cell], p)
	})
}

// each has all places of the row be told, one by one, in no order.
func (r *row) each(tell func(p api.Place)) {
	for _, cell := range r.cells {
		for _, p := range cell {
			tell(p)
		}
	}
}
