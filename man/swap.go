package man

import (
	"souterrain/api"
	"souterrain/disk"
	"souterrain/name"
)

// step is one of the things that are done in turn.
type step func() api.Errno

// Save has a manifest be that of a disk. It is written under another name, and kept, before it has the manifest's: so that is at all times the name of a whole one.
func Save(d *disk.Disk, m api.Man) api.Errno {
	if !Right(m) {
		return api.ErrArg
	}
	temp, b := name.Of(api.Temp, 0), Put(m)
	return inTurn(
		func() api.Errno { return removeLeft(d, temp) },
		with(d.Create, temp),
		func() api.Errno { return d.Append(temp, b) },
		with(d.Sync, temp),
		func() api.Errno { return d.Rename(temp, name.Of(api.Manifest, 0)) },
		d.SyncDir,
	)
}

// Load is the manifest of a disk; false, if there is none.
func Load(d *disk.Disk) (api.Man, bool, api.Errno) {
	file := name.Of(api.Manifest, 0)
	size, _ := d.Size(file)
	b, err := d.Read(file, 0, size)
	if err == api.ErrNone {
		return api.Man{}, false, api.OK
	}
	if err != api.OK {
		return api.Man{}, false, err
	}
	m, is := Get(b)
	if !is {
		return api.Man{}, false, api.ErrCorrupt
	}
	return m, true, api.OK
}

// inTurn does all steps, up to one that has an error.
func inTurn(steps ...step) api.Errno {
	for _, s := range steps {
		if err := s(); err != api.OK {
			return err
		}
	}
	return api.OK
}

// with is the step that does something to a file.
func with(do func(string) api.Errno, file string) step {
	return func() api.Errno { return do(file) }
}

// removeLeft removes what an earlier Save, that did not come to its end, may have left.
func removeLeft(d *disk.Disk, file string) api.Errno {
	if _, is := d.Size(file); !is {
		return api.OK
	}
	return d.Remove(file)
}
