package book_test

import (
	"fmt"
	"slices"
	"testing"

	"souterrain/api"
	"souterrain/book"
)

// chance tells numbers that look like no pattern, but are the same each time.
type chance uint64

func (c *chance) below(n int) int {
	*c = *c*6364136223846793005 + 1442695040888963407
	return int(uint64(*c) >> 33 % uint64(n))
}

// entry is what a call that was true changed: how much more a segment has, and how much more of that is alive; or that it was dropped.
type entry struct {
	seg       int
	all, live int64
	dropped   bool
}

// plain is what a book is to answer, by the document's words: all that was put, less what was killed, and dropped, is gone through anew each time.
type plain []entry

func (p *plain) add(e entry) { *p = append(*p, e) }

func (p plain) of(seg int) (api.Use, bool) {
	u, is := api.Use{}, false
	for _, e := range p {
		switch {
		case e.seg != seg:
		case e.dropped:
			u, is = api.Use{}, false
		default:
			u, is = api.Use{Seg: seg, All: u.All + e.all, Live: u.Live + e.live}, true
		}
	}
	return u, is
}

// segs are the numbers of all segments that are there, in order.
func (p plain) segs() []int {
	var l []int
	for _, e := range p {
		if _, is := p.of(e.seg); is && !slices.Contains(l, e.seg) {
			l = append(l, e.seg)
		}
	}
	slices.Sort(l)
	return l
}

func (p plain) all() []api.Use {
	var l []api.Use
	for _, seg := range p.segs() {
		u, _ := p.of(seg)
		l = append(l, u)
	}
	return l
}

// worst takes, of what is left, the first one of which no other one's dead are more.
func (p plain) worst() []int {
	var l []int
	for left := p.all(); len(left) > 0; {
		worst := 0
		for i, u := range left {
			if u.All-u.Live > left[worst].All-left[worst].Live {
				worst = i
			}
		}
		l = append(l, left[worst].Seg)
		left = slices.Delete(left, worst, worst+1)
	}
	return l
}

func (p *plain) put(seg int, n int64, live bool) bool {
	u, _ := p.of(seg)
	if seg < 0 || seg > 99999999 || n < 0 || n > 1099511627776 || u.All+n > 1125899906842624 {
		return false
	}
	e := entry{seg: seg, all: n}
	if live {
		e.live = n
	}
	p.add(e)
	return true
}

func (p *plain) kill(seg int, n int64) bool {
	u, is := p.of(seg)
	if !is || n < 0 || n > u.Live {
		return false
	}
	p.add(entry{seg: seg, live: -n})
	return true
}

func (p *plain) drop(seg int) bool {
	_, is := p.of(seg)
	if is {
		p.add(entry{seg: seg, dropped: true})
	}
	return is
}

// held is a book, and what it is to answer.
type held struct {
	t    *testing.T
	what string
	b    *book.Book
	p    plain
}

// hold is a new book.
func hold(t *testing.T) *held { return &held{t: t, b: book.New()} }

// did has it stand in what is told of a fault what was done last, and what came of it, and expects that to be want.
func (h *held) did(what string, got, want bool) bool {
	h.t.Helper()
	h.what += what
	if len(h.what) > 400 {
		h.what = ".." + h.what[len(h.what)-300:]
	}
	if got != want {
		h.t.Fatalf("%s: %t; want %t", h.what, got, want)
	}
	h.same()
	return got
}

func (h *held) put(seg int, n int64, live bool) bool {
	h.t.Helper()
	return h.did(fmt.Sprintf(" put %d %d %t", seg, n, live), h.b.Put(seg, n, live), h.p.put(seg, n, live))
}

func (h *held) kill(seg int, n int64) bool {
	h.t.Helper()
	return h.did(fmt.Sprintf(" kill %d %d", seg, n), h.b.Kill(seg, n), h.p.kill(seg, n))
}

func (h *held) drop(seg int) bool {
	h.t.Helper()
	return h.did(fmt.Sprintf(" drop %d", seg), h.b.Drop(seg), h.p.drop(seg))
}

// yes and no expect that to have come of a call.
func (h *held) yes(is bool) {
	h.t.Helper()
	if !is {
		h.t.Fatalf("%s: false", h.what)
	}
}

func (h *held) no(is bool) {
	h.t.Helper()
	if is {
		h.t.Fatalf("%s: true", h.what)
	}
}

// same tells if an answer isn't what it is to be.
func (h *held) same() {
	h.t.Helper()
	want := h.p.all()
	if got := h.b.All(); !slices.Equal(got, want) {
		h.t.Fatalf("%s: %v; want %v", h.what, got, want)
	}
	if got := h.b.Worst(); !slices.Equal(got, h.p.worst()) {
		h.t.Fatalf("%s: worst %v; want %v", h.what, got, h.p.worst())
	}
	var all, live int64
	for _, u := range want {
		all, live = all+u.All, live+u.Live
		h.sameOf(u.Seg-1, u.Seg, u.Seg+1)
	}
	if n, m := h.b.Sum(); n != all || m != live {
		h.t.Fatalf("%s: sums %d, %d; want %d, %d", h.what, n, m, all, live)
	}
	if len(h.p) > 0 {
		h.sameOf(h.p[len(h.p)-1].seg)
	}
}

// sameOf tells if one of these segments has not what it is to have, or if more is alive of it than there is, or less than nothing.
func (h *held) sameOf(segs ...int) {
	h.t.Helper()
	for _, seg := range segs {
		u, is := h.b.Of(seg)
		if want, wantIs := h.p.of(seg); u != want || is != wantIs || u.Live < 0 || u.Live > u.All {
			h.t.Fatalf("%s: %d has %v, %t; want %v, %t", h.what, seg, u, is, want, wantIs)
		}
	}
}
