package disk

import "seabag/api"

// bytesOf is a node that has bytes.
func (d *Disk) bytesOf(id int) (*node, api.Errno) {
	n, there := d.nodes[id]
	if !there {
		return nil, api.ErrNone
	}
	if n.kind == Folder {
		return nil, api.ErrIsDir
	}
	return n, api.OK
}

// file is a node whose bytes may change: a link leads where it was made to.
func (d *Disk) file(id int) (*node, api.Errno) {
	n, e := d.bytesOf(id)
	if e != api.OK {
		return nil, e
	}
	if n.kind == Symlink {
		return nil, api.ErrKind
	}
	return n, api.OK
}

// Data is what a file has, or where a link leads.
func (d *Disk) Data(id int) (string, api.Errno) {
	n, e := d.bytesOf(id)
	if e != api.OK {
		return "", e
	}
	return string(n.data), api.OK
}

// Read are at most so many bytes of a file, from a place on.
func (d *Disk) Read(id, at, most int) (string, api.Errno) {
	n, e := d.bytesOf(id)
	if e != api.OK {
		return "", e
	}
	if at < 0 || most < 0 {
		return "", api.ErrRange
	}
	rest := n.data[min(at, len(n.data)):]
	return string(rest[:min(most, len(rest))]), api.OK
}

// Write puts bytes at a place of a file, all of them or none; what lies between its end and the place is noughts.
func (d *Disk) Write(id, at int, s string) api.Errno {
	n, e := d.file(id)
	if e != api.OK {
		return e
	}
	if at < 0 {
		return api.ErrRange
	}
	if s == "" {
		return api.OK
	}
	// Not the sum: that may be more than an int holds.
	if at > api.MaxFile-len(s) {
		return api.ErrLong
	}
	more := max(0, at+len(s)-len(n.data))
	if more > d.free() {
		return api.ErrSpace
	}
	n.data = append(n.data, make([]byte, more)...)
	copy(n.data[at:], s)
	d.used += more
	return api.OK
}

// Empty takes all bytes of a file away.
func (d *Disk) Empty(id int) api.Errno {
	n, e := d.file(id)
	if e != api.OK {
		return e
	}
	d.used -= len(n.data)
	n.data = nil
	return api.OK
}
