package files

import (
	"strings"

	"seabag/api"
	"seabag/disk"
	"seabag/mode"
	"seabag/walk"
)

// linkMode keeps nobody from anything: what a link leads to has a mode of its own.
const linkMode = 0o777

// Mkdir makes a directory.
func (f *Files) Mkdir(w Who, s string, m int) api.Errno {
	if e := f.count(); e != api.OK {
		return e
	}
	p, e := f.free(w, s, disk.Folder)
	if e != api.OK {
		return e
	}
	return f.lay(p, disk.Folder, mode.Fresh(m, w.Mask), "")
}

// Symlink makes a link.
func (f *Files) Symlink(w Who, target, s string) api.Errno {
	if e := f.count(); e != api.OK {
		return e
	}
	if e := wrongTarget(target); e != api.OK {
		return e
	}
	p, e := f.free(w, s, disk.Symlink)
	if e != api.OK {
		return e
	}
	return f.lay(p, disk.Symlink, linkMode, target)
}

func wrongTarget(target string) api.Errno {
	switch {
	case target == "":
		return api.ErrNone
	case len(target) > api.MaxPath:
		return api.ErrLong
	case strings.IndexByte(target, 0) >= 0:
		return api.ErrForm
	}
	return api.OK
}

// Link lets another path lead to a file, or a link.
func (f *Files) Link(w Who, old, s string) api.Errno {
	if e := f.count(); e != api.OK {
		return e
	}
	was, e := walk.There(f.disk, w.At, old, false)
	if e != api.OK {
		return e
	}
	if f.isFolder(was.Node) {
		return api.ErrLinks
	}
	p, e := f.free(w, s, disk.File)
	if e != api.OK {
		return e
	}
	return f.disk.Enter(p.Dir, p.Name, was.Node)
}

// Rmdir takes a directory away.
func (f *Files) Rmdir(w Who, s string) api.Errno {
	if e := f.count(); e != api.OK {
		return e
	}
	p, e := walk.There(f.disk, w.At, s, false)
	if e != api.OK {
		return e
	}
	if !f.isFolder(p.Node) {
		return api.ErrNotDir
	}
	return f.takeAway(p)
}

// Unlink takes a file's, or a link's, path away.
func (f *Files) Unlink(w Who, s string) api.Errno {
	if e := f.count(); e != api.OK {
		return e
	}
	p, e := walk.There(f.disk, w.At, s, false)
	if e != api.OK {
		return e
	}
	if f.isFolder(p.Node) {
		return api.ErrIsDir
	}
	return f.takeAway(p)
}

func (f *Files) takeAway(p walk.Place) api.Errno {
	switch {
	case !byName(p):
		return api.ErrBusy
	case !f.may(p.Dir, MayWrite):
		return api.ErrDenied
	}
	return f.disk.Leave(p.Dir, p.Name)
}

// byName: what a path leads to by ., .. or slashes alone has no entry there that could be taken away.
func byName(p walk.Place) bool { return p.Name != "" }

// Rename gives something another path.
func (f *Files) Rename(w Who, a, b string) api.Errno {
	if e := f.count(); e != api.OK {
		return e
	}
	from, e := walk.There(f.disk, w.At, a, false)
	if e != api.OK {
		return e
	}
	to, e := walk.Find(f.disk, w.At, b, false)
	switch {
	case e != api.OK:
		return e
	case !byName(from) || !byName(to):
		return api.ErrBusy
	case to.Node == 0 && endsWithSlash(b) && !f.isFolder(from.Node):
		return api.ErrNotDir
	case !f.may(from.Dir, MayWrite) || !f.may(to.Dir, MayWrite):
		return api.ErrDenied
	}
	return f.disk.Move(from.Dir, from.Name, to.Dir, to.Name)
}

// Chmod gives something another mode.
func (f *Files) Chmod(w Who, s string, m int) api.Errno {
	if e := f.count(); e != api.OK {
		return e
	}
	p, e := walk.There(f.disk, w.At, s, true)
	if e != api.OK {
		return e
	}
	return f.disk.Chmod(p.Node, m)
}
