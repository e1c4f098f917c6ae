package disk

import (
	"strings"

	"souterrain/api"
)

// names are files by their names.
type names map[string]*file

// change is something that is done to names, and may be done again to others. It keeps copies of what it was made of.
type change func(names)

// right is whether a text may be a name.
func right(name string) bool { return len(name) >= 1 && len(name) <= api.MaxName }

// made is that a file has a name.
func made(name string, f *file) change {
	name = strings.Clone(name)
	return func(n names) { n[name] = f }
}

// moved is that a file has another name, which no other one has any more.
func moved(name, to string) change {
	name, to = strings.Clone(name), strings.Clone(to)
	return func(n names) {
		if f, is := n[name]; is {
			delete(n, name)
			n[to] = f
		}
	}
}

// taken is that there is no such name.
func taken(name string) change {
	name = strings.Clone(name)
	return func(n names) { delete(n, name) }
}
