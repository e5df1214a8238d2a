package files

import (
	"seabag/api"
	"seabag/dir"
	"seabag/disk"
	"seabag/walk"
)

// Stat is what is told of something.
func (f *Files) Stat(w Who, s string, follow bool) (int, disk.Info, api.Errno) {
	p, e := walk.There(f.disk, w.At, s, follow)
	if e != api.OK {
		return 0, disk.Info{}, e
	}
	info, e := f.disk.Info(p.Node)
	return p.Node, info, e
}

// Readlink is where a link leads.
func (f *Files) Readlink(w Who, s string) (string, api.Errno) {
	id, info, e := f.Stat(w, s, false)
	switch {
	case e != api.OK:
		return "", e
	case info.Kind != disk.Symlink:
		return "", api.ErrKind
	}
	return f.disk.Data(id)
}

// List are a directory's entries, by rising names.
func (f *Files) List(w Who, s string) ([]dir.Entry, api.Errno) {
	id, e := f.folder(w, s, MayRead)
	if e != api.OK {
		return nil, e
	}
	return f.disk.List(id)
}

// Chdir is the user elsewhere.
func (f *Files) Chdir(w Who, s string) (Who, api.Errno) {
	id, e := f.folder(w, s, MayGo)
	if e != api.OK {
		return Who{}, e
	}
	return Who{At: id, Mask: w.Mask}, api.OK
}

// folder is the directory that a path leads to, if its mode has a bit.
func (f *Files) folder(w Who, s string, bit int) (int, api.Errno) {
	id, info, e := f.Stat(w, s, true)
	switch {
	case e != api.OK:
		return 0, e
	case info.Kind != disk.Folder:
		return 0, api.ErrNotDir
	case info.Mode&bit == 0:
		return 0, api.ErrDenied
	}
	return id, api.OK
}

// Where is the path of where a user is.
func (f *Files) Where(w Who) (string, api.Errno) { return walk.Whole(f.disk, w.At) }
