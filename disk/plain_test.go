package disk_test

import (
	"bytes"
	"fmt"
	"maps"
	"slices"
	"testing"

	"souterrain/api"
	"souterrain/disk"
)

// chance tells numbers that look like no pattern, but are the same each time.
type chance uint64

func (c *chance) below(n int) int {
	*c = *c*6364136223846793005 + 1442695040888963407
	return int(uint64(*c) >> 33 % uint64(n))
}

// text is n bytes of all kinds; unlike seeds give unlike bytes.
func text(n int, seed uint64) []byte {
	c := chance(seed)
	b := make([]byte, n)
	for i := range b {
		b[i] = byte(c.below(256))
	}
	return b
}

// plain is what a disk is to answer, by the document's words: what names were is written down behind each thing that was done to them, and each file that was ever made has a number.
type plain struct {
	most  int
	files [][]byte
	kept  []int
	names map[string]int
	times []map[string]int // names as they are kept, and behind each thing that is pending
	done  int
	fail  int // 1 is the next thing, 0 none
	cut   int
	down  bool
}

func newPlain(most int) *plain {
	return &plain{most: most, names: map[string]int{}, times: []map[string]int{{}}}
}

// thing is what comes of what has no other error.
func (p *plain) thing(do func()) api.Errno {
	cut, fail := p.cut, p.fail
	p.cut = max(p.cut-1, 0)
	p.fail = max(p.fail-1, 0)
	if cut == 1 {
		p.down = true
		return api.ErrDown
	}
	if fail == 1 {
		return api.ErrIO
	}
	do()
	p.done++
	return api.OK
}

func (p *plain) named() {
	p.times = append(p.times, maps.Clone(p.names))
}

func (p *plain) used() int {
	n := 0
	for _, f := range p.names {
		n += len(p.files[f])
	}
	return n
}

func plainName(name string) bool {
	return name != "" && len(name) < 17
}

func (p *plain) create(name string) api.Errno {
	if p.down {
		return api.ErrDown
	}
	if !plainName(name) {
		return api.ErrArg
	}
	if _, is := p.names[name]; is {
		return api.ErrThere
	}
	if len(p.names) == 4096 {
		return api.ErrTooMany
	}
	return p.thing(func() {
		p.names[name] = len(p.files)
		p.files = append(p.files, nil)
		p.kept = append(p.kept, 0)
		p.named()
	})
}

// missing is the error that comes first, in what is done to a file.
func (p *plain) missing(name string) api.Errno {
	if p.down {
		return api.ErrDown
	}
	if _, is := p.names[name]; !is {
		return api.ErrNone
	}
	return api.OK
}

func (p *plain) append(name string, b []byte) api.Errno {
	if e := p.missing(name); e != api.OK {
		return e
	}
	if p.used()+len(b) > p.most {
		return api.ErrFull
	}
	return p.thing(func() {
		f := p.names[name]
		p.files[f] = slices.Concat(p.files[f], b)
	})
}

func (p *plain) sync(name string) api.Errno {
	if e := p.missing(name); e != api.OK {
		return e
	}
	return p.thing(func() {
		f := p.names[name]
		p.kept[f] = len(p.files[f])
	})
}

func (p *plain) rename(name, to string) api.Errno {
	if e := p.missing(name); e != api.OK {
		return e
	}
	if !plainName(to) || name == to {
		return api.ErrArg
	}
	return p.thing(func() {
		p.names[to] = p.names[name]
		delete(p.names, name)
		p.named()
	})
}

func (p *plain) remove(name string) api.Errno {
	if e := p.missing(name); e != api.OK {
		return e
	}
	return p.thing(func() {
		delete(p.names, name)
		p.named()
	})
}

func (p *plain) syncDir() api.Errno {
	if p.down {
		return api.ErrDown
	}
	return p.thing(func() { p.times = []map[string]int{maps.Clone(p.names)} })
}

func (p *plain) read(name string, at, n int) ([]byte, api.Errno) {
	if e := p.missing(name); e != api.OK {
		return nil, e
	}
	b := p.files[p.names[name]]
	if at < 0 || n < 0 || uint64(at)+uint64(n) > uint64(len(b)) {
		return nil, api.ErrArg
	}
	return b[at : at+n], api.OK
}

func (p *plain) boot(dirs int, list []int) {
	last := len(p.times) - 1
	if dirs < last {
		last = max(dirs, 0)
	}
	p.names = p.times[last]
	for f, b := range p.files {
		n := p.kept[f]
		if len(list) > 0 && list[f%len(list)] > 0 {
			n = len(b)
			if more := list[f%len(list)]; more < len(b)-p.kept[f] {
				n = p.kept[f] + more
			}
		}
		p.files[f] = b[:n:n]
		p.kept[f] = n
	}
	p.times = []map[string]int{maps.Clone(p.names)}
	p.fail, p.cut, p.down = 0, 0, false
}

func (p *plain) flip(name string, at int, bits uint32) bool {
	f, is := p.names[name]
	if !is || at < 0 || at > 8*len(p.files[f])-1 {
		return false
	}
	b := bytes.Clone(p.files[f])
	for i := range 32 {
		if bits>>i&1 == 1 && at+i < 8*len(b) {
			b[(at+i)/8] ^= 1 << ((at + i) % 8)
		}
	}
	p.files[f] = b
	return true
}

// held is a disk, and what it is to answer.
type held struct {
	t    *testing.T
	what string
	d    *disk.Disk
	p    *plain
}

// hold is a new disk.
func hold(t *testing.T, most int) *held {
	t.Helper()
	h := &held{t, fmt.Sprintf("%d bytes:", most), disk.New(most), newPlain(min(max(most, 0), api.MaxDisk))}
	h.same()
	return h
}

// did has it stand in what is told of a fault what was done last.
func (h *held) did(what string, with ...any) {
	h.what += " " + what
	for _, x := range with {
		h.what += fmt.Sprintf(" %#v", x)
	}
	h.what += ";"
	if len(h.what) > 900 {
		h.what = h.what[:200] + " .." + h.what[len(h.what)-600:]
	}
}

// err tells if an error isn't the one that it is to be, or the disk isn't as it is to be.
func (h *held) err(got, want api.Errno) api.Errno {
	h.t.Helper()
	if got != want {
		h.t.Fatalf("%s %d; want %d", h.what, got, want)
	}
	h.same()
	return got
}

func (h *held) create(name string) api.Errno {
	h.t.Helper()
	h.did("create", name)
	return h.err(h.d.Create(name), h.p.create(name))
}

func (h *held) append(name string, b []byte) api.Errno {
	h.t.Helper()
	h.did("append", name, len(b))
	return h.err(h.d.Append(name, b), h.p.append(name, b))
}

func (h *held) sync(name string) api.Errno {
	h.t.Helper()
	h.did("sync", name)
	return h.err(h.d.Sync(name), h.p.sync(name))
}

func (h *held) rename(name, to string) api.Errno {
	h.t.Helper()
	h.did("rename", name, to)
	return h.err(h.d.Rename(name, to), h.p.rename(name, to))
}

func (h *held) remove(name string) api.Errno {
	h.t.Helper()
	h.did("remove", name)
	return h.err(h.d.Remove(name), h.p.remove(name))
}

func (h *held) syncDir() api.Errno {
	h.t.Helper()
	h.did("syncdir")
	return h.err(h.d.SyncDir(), h.p.syncDir())
}

func (h *held) fail(after int) {
	h.t.Helper()
	h.did("fail", after)
	h.d.Fail(after)
	if after >= 0 {
		h.p.fail = 1 + min(after, 1<<40)
	}
	h.same()
}

func (h *held) cut(after int) {
	h.t.Helper()
	h.did("cut", after)
	h.d.Cut(after)
	if after >= 0 {
		h.p.cut = 1 + min(after, 1<<40)
	}
	h.same()
}

func (h *held) boot(dirs int, list []int) {
	h.t.Helper()
	h.did("boot", dirs, list)
	h.d.Boot(dirs, list)
	h.p.boot(dirs, list)
	h.same()
}

func (h *held) flip(name string, at int, bits uint32) bool {
	h.t.Helper()
	h.did("flip", name, at, bits)
	got, want := h.d.Flip(name, at, bits), h.p.flip(name, at, bits)
	if got != want {
		h.t.Fatalf("%s %t; want %t", h.what, got, want)
	}
	h.same()
	return got
}

// read reads a part of a file, and is it.
func (h *held) read(name string, at, n int) ([]byte, api.Errno) {
	h.t.Helper()
	got, e := h.d.Read(name, at, n)
	want, wantE := h.p.read(name, at, n)
	if e != wantE || !bytes.Equal(got, want) {
		h.t.Fatalf("%s read %s %d %d: %.40x, %d; want %.40x, %d", h.what, name, at, n, got, e, want, wantE)
	}
	return got, e
}

// same tells if the disk isn't as it is to be.
func (h *held) same() {
	h.t.Helper()
	if h.d.Down() != h.p.down || h.d.Done() != h.p.done || h.d.Used() != h.p.used() {
		h.t.Fatalf("%s down %t, done %d, used %d; want %t, %d, %d", h.what, h.d.Down(), h.d.Done(), h.d.Used(), h.p.down, h.p.done, h.p.used())
	}
	if got, want := h.d.List(), slices.Sorted(maps.Keys(h.p.names)); !slices.Equal(got, want) {
		h.t.Fatalf("%s %.300q; want %.300q", h.what, got, want)
	}
	for name, f := range h.p.names {
		n, is := h.d.Size(name)
		if n != len(h.p.files[f]) || !is {
			h.t.Fatalf("%s size of %s: %d, %t; want %d", h.what, name, n, is, len(h.p.files[f]))
		}
		h.read(name, 0, n)
	}
	for _, name := range append(names(), "", "none") {
		if _, there := h.p.names[name]; there {
			continue
		}
		if n, is := h.d.Size(name); n != 0 || is {
			h.t.Fatalf("%s size of %q: %d, %t; want none", h.what, name, n, is)
		}
		h.read(name, 0, 0)
	}
}

// names are names of all kinds, one of them as long as may be.
func names() []string {
	return []string{"a", "b", "sixteen bytes: .", "\x00"}
}
