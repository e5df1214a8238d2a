package files

import (
	"seabag/api"
	"seabag/disk"
	"seabag/mode"
	"seabag/walk"
)

// Open opens a file: its node, which is held.
func (f *Files) Open(w Who, s string, flags, m int) (int, api.Errno) {
	if flags&(Create|Empty) != 0 {
		if e := f.count(); e != api.OK {
			return 0, e
		}
	}
	mustBeNew := flags&Create != 0 && flags&New != 0
	p, e := walk.Find(f.disk, w.At, s, !mustBeNew)
	switch {
	case e != api.OK:
		return 0, e
	case p.Node == 0:
		return f.openNew(w, p, s, flags, m)
	case mustBeNew:
		return 0, api.ErrExist
	}
	return f.openOld(p.Node, flags)
}

// openNew makes the file: its mode is for those who open it later, so that it isn't asked here.
func (f *Files) openNew(w Who, p walk.Place, s string, flags, m int) (int, api.Errno) {
	switch {
	case flags&Create == 0:
		return 0, api.ErrNone
	case endsWithSlash(s):
		return 0, api.ErrIsDir
	case !f.may(p.Dir, MayWrite):
		return 0, api.ErrDenied
	}
	return f.enter(p, disk.File, mode.Fresh(m, w.Mask), "")
}

// openOld opens a file that a path led to, so that it is there, and the disk refuses nothing.
func (f *Files) openOld(id, flags int) (int, api.Errno) {
	info, _ := f.disk.Info(id)
	switch {
	case info.Kind == disk.Folder:
		return 0, api.ErrIsDir
	case info.Kind == disk.Symlink:
		return 0, api.ErrLoop
	case flags&Read != 0 && info.Mode&MayRead == 0:
		return 0, api.ErrDenied
	case flags&(Write|Empty) != 0 && info.Mode&MayWrite == 0:
		return 0, api.ErrDenied
	}
	if flags&Empty != 0 {
		f.disk.Empty(id)
	}
	f.disk.Hold(id)
	return id, api.OK
}

// Close lets an opened file go.
func (f *Files) Close(id int) api.Errno { return f.disk.Release(id) }

// Read reads bytes of an opened file.
func (f *Files) Read(id, at, most int) (string, api.Errno) { return f.disk.Read(id, at, most) }

// Write writes bytes of an opened file.
func (f *Files) Write(id, at int, s string) api.Errno {
	if e := f.count(); e != api.OK {
		return e
	}
	return f.disk.Write(id, at, s)
}
