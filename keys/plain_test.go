package keys_test

import (
	"fmt"
	"maps"
	"math"
	"slices"
	"sort"
	"testing"

	"souterrain/api"
	"souterrain/keys"
)

// chance tells numbers that look like no pattern, but are the same each time.
type chance uint64

func (c *chance) below(n int) int {
	*c = *c*6364136223846793005 + 1442695040888963407
	return int(uint64(*c) >> 33 % uint64(n))
}

// place is one of a key, with a number in all that it tells, so that no two have all alike.
func place(key string, n int) api.Place {
	return api.Place{Seg: n + 1, Hint: api.Hint{Kind: 2 + n%3, Key: key, At: n + 2, Size: n + 3}}
}

// plain is what a directory is to answer, by the document's words.
type plain map[string]api.Place

func (p plain) get(key string) (api.Place, bool) {
	was, is := p[key]
	return was, is
}

func (p plain) put(x api.Place) (api.Place, bool) {
	was, is := p[x.Hint.Key]
	p[x.Hint.Key] = x
	return was, is
}

func (p plain) del(key string) (api.Place, bool) {
	was, is := p[key]
	delete(p, key)
	return was, is
}

func (p plain) list() []string {
	l := slices.Collect(maps.Keys(p))
	sort.Strings(l)
	return l
}

// from is told of a list: all keys are gone through, one by one.
func from(list []string, key string, many int) []string {
	var l []string
	for _, k := range list {
		if k >= key && len(l) < many {
			l = append(l, k)
		}
	}
	return l
}

// held is a directory, and what it is to answer.
type held struct {
	t    *testing.T
	what string
	d    *keys.Dir
	p    plain
}

// hold is a new directory.
func hold(t *testing.T) *held { return &held{t: t, d: keys.New(), p: plain{}} }

// did has it stand in what is told of a fault what was done last, and expects what came of it to be what is wanted.
func (h *held) did(what string, got api.Place, is bool, want api.Place, wantIs bool) bool {
	h.t.Helper()
	h.what += what
	if len(h.what) > 400 {
		h.what = ".." + h.what[len(h.what)-300:]
	}
	if got != want || is != wantIs {
		h.t.Fatalf("%s: %v, %t; want %v, %t", h.what, got, is, want, wantIs)
	}
	return is
}

// put, del and get are whether there was one.
func (h *held) put(x api.Place) bool {
	h.t.Helper()
	got, is := h.d.Put(x)
	want, wantIs := h.p.put(x)
	return h.did(fmt.Sprintf(" put %.20q", x.Hint.Key), got, is, want, wantIs)
}

func (h *held) del(key string) bool {
	h.t.Helper()
	got, is := h.d.Del(key)
	want, wantIs := h.p.del(key)
	return h.did(fmt.Sprintf(" del %.20q", key), got, is, want, wantIs)
}

func (h *held) get(key string) bool {
	h.t.Helper()
	got, is := h.d.Get(key)
	want, wantIs := h.p.get(key)
	return h.did(fmt.Sprintf(" get %.20q", key), got, is, want, wantIs)
}

// yes and no expect that to have come of a call.
func (h *held) yes(is bool) {
	h.t.Helper()
	if !is {
		h.t.Fatalf("%s: false", h.what)
	}
}

func (h *held) no(is bool) {
	h.t.Helper()
	if is {
		h.t.Fatalf("%s: true", h.what)
	}
}

// same tells if the list, how many keys there are, or a key's place, isn't what it is to be.
func (h *held) same() {
	h.t.Helper()
	want := h.p.list()
	if got := h.d.List(); !slices.Equal(got, want) {
		h.t.Fatalf("%s: %s; want %s", h.what, brief(got), brief(want))
	}
	if n := h.d.Many(); n != len(want) {
		h.t.Fatalf("%s: %d keys; want %d", h.what, n, len(want))
	}
	for key, p := range h.p {
		if got, is := h.d.Get(key); got != p || !is {
			h.t.Fatalf("%s: %.20q has %v, %t; want %v", h.what, key, got, is, p)
		}
	}
}

// from expects so many keys from one on to be told as they are to be.
func (h *held) from(list []string, key string, many int) {
	h.t.Helper()
	if got, want := h.d.From(key, many), from(list, key, many); !slices.Equal(got, want) {
		h.t.Fatalf("%s: %d from %.20q on: %s; want %s", h.what, many, key, brief(got), brief(want))
	}
}

// manys are how many keys are asked for, where so many are there.
func manys(there int) []int {
	return []int{0, 1, 2, 3, there/2 - 1, there / 2, there/2 + 1, there - 1, there, there + 1, 2 * there, 2*there + 1, 1 << 32, 1<<32 + 1, math.MaxInt - 1, math.MaxInt, -1, -2, -there, -1 << 32, -1<<32 + 1, math.MinInt, math.MinInt + 1}
}

// brief is a list, or its beginning.
func brief(l []string) string {
	if len(l) < 12 {
		return fmt.Sprintf("%.20q", l)
	}
	return fmt.Sprintf("%d: %.20q..", len(l), l[:12])
}
