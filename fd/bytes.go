package fd

import (
	"seabag/api"
	"seabag/files"
)

// opened is what a number is of, if it was opened for that; else nil.
func (t *Table) opened(n, flag int) *thing {
	x := t.open[n]
	if x == nil || x.flags&flag == 0 {
		return nil
	}
	return x
}

// Read reads at most so many bytes.
func (t *Table) Read(n, most int) (string, api.Errno) {
	x := t.opened(n, files.Read)
	switch {
	case x == nil:
		return "", api.ErrFd
	case x.pipe != nil:
		return x.pipe.Read(most), api.OK
	}
	// Below, less than none would be an error.
	s, e := t.files.Read(x.node, x.place, max(most, 0))
	x.place += len(s)
	return s, e
}

// All reads all bytes that are left.
func (t *Table) All(n int) (string, api.Errno) { return t.Read(n, api.MaxFile) }

// Write writes bytes, all of them or none.
func (t *Table) Write(n int, s string) api.Errno {
	x := t.opened(n, files.Write)
	switch {
	case x == nil:
		return api.ErrFd
	case s == "":
		return api.OK
	case x.pipe != nil:
		return x.pipe.Write(s)
	}
	at := t.placeToWrite(x)
	if e := t.files.Write(x.node, at, s); e != api.OK {
		return e
	}
	x.place = at + len(s)
	return api.OK
}

// placeToWrite is where the next bytes come: the end is asked anew each time, as others may write there, too.
func (t *Table) placeToWrite(x *thing) int {
	if x.flags&Append == 0 {
		return x.place
	}
	info, _ := t.files.Disk().Info(x.node)
	return info.Size
}
