package disk

import (
	"seabag/api"
	"seabag/dir"
)

func (d *Disk) folder(id int) (*node, api.Errno) {
	n, there := d.nodes[id]
	if !there {
		return nil, api.ErrNone
	}
	if n.kind != Folder {
		return nil, api.ErrNotDir
	}
	return n, api.OK
}

// entry is a directory, and the node that a name of it names.
func (d *Disk) entry(id int, name string) (*node, int, api.Errno) {
	n, e := d.folder(id)
	if e != api.OK {
		return nil, 0, e
	}
	k, there := n.entries.Get(name)
	if !there {
		return nil, 0, api.ErrNone
	}
	return n, k, api.OK
}

// Look is the node that a name of a directory names.
func (d *Disk) Look(id int, name string) (int, api.Errno) {
	_, k, e := d.entry(id, name)
	return k, e
}

// List are a directory's entries, by rising names.
func (d *Disk) List(id int) ([]dir.Entry, api.Errno) {
	n, e := d.folder(id)
	if e != api.OK {
		return nil, e
	}
	return n.entries.List(), api.OK
}

// Up is the directory that has a directory; the root's is itself.
func (d *Disk) Up(id int) (int, api.Errno) {
	n, e := d.folder(id)
	if e != api.OK {
		return 0, e
	}
	if n.up == 0 {
		return 0, api.ErrNone
	}
	return n.up, api.OK
}

// Enter lets a name of a directory name a node.
func (d *Disk) Enter(id int, name string, k int) api.Errno {
	n, e := d.folder(id)
	if e != api.OK {
		return e
	}
	named, there := d.nodes[k]
	switch {
	case !there:
		return api.ErrNone
	case named.kind == Folder && named.links > 0:
		return api.ErrLinks
	case named.links >= api.MaxLinks:
		return api.ErrMany
	}
	if e := d.put(n, name, k, len(name)); e != api.OK {
		return e
	}
	named.links++
	named.up = id
	return api.OK
}

// put puts a name into a directory, if there is room for so many bytes more; layer 3's errors stand ahead of that one.
func (d *Disk) put(n *node, name string, k, more int) api.Errno {
	if e := n.entries.Put(name, k); e != api.OK {
		return e
	}
	if more > d.free() {
		n.entries.Drop(name)
		return api.ErrSpace
	}
	d.used += more
	return api.OK
}

// Leave takes a name of a directory away.
func (d *Disk) Leave(id int, name string) api.Errno {
	n, k, e := d.entry(id, name)
	if e != api.OK {
		return e
	}
	if d.nodes[k].entries.Len() > 0 {
		return api.ErrNotEmpty
	}
	n.entries.Drop(name)
	d.used -= len(name)
	d.unlink(k)
	return api.OK
}

// Move gives what a name names another name, there or elsewhere, in place of what that names.
func (d *Disk) Move(from int, name string, to int, other string) api.Errno {
	source, k, e := d.entry(from, name)
	if e != api.OK {
		return e
	}
	target, e := d.folder(to)
	if e != api.OK {
		return e
	}
	moved := d.nodes[k]
	if moved.kind == Folder && d.within(to, k) {
		return api.ErrBusy
	}
	old, there := target.entries.Get(other)
	if there && old == k {
		return api.OK
	}
	if there {
		e = mayReplace(moved, d.nodes[old])
	} else {
		e = d.put(target, other, k, len(other)-len(name))
	}
	if e != api.OK {
		return e
	}
	source.entries.Drop(name)
	moved.up = to
	if there {
		target.entries.Set(other, k)
		d.used -= len(name)
		d.unlink(old)
	}
	return api.OK
}

// mayReplace tells why a node may not take another one's place.
func mayReplace(moved, old *node) api.Errno {
	switch {
	case moved.kind == Folder && old.kind != Folder:
		return api.ErrNotDir
	case moved.kind != Folder && old.kind == Folder:
		return api.ErrIsDir
	case old.entries.Len() > 0:
		return api.ErrNotEmpty
	}
	return api.OK
}

// within: a directory is another one, or lies below it.
func (d *Disk) within(id, upper int) bool {
	// So many steps at most: a directory that was entered into itself has a way up without an end.
	steps := len(d.nodes)
further:
	if id == upper {
		return true
	}
	n, there := d.nodes[id]
	if !there || id == Root || steps == 0 {
		return false
	}
	id = n.up
	steps--
	goto further
}
