package disk

import (
	"slices"
	"strings"
	"testing"

	"seabag/api"
	"seabag/dir"
)

// model is what the chapter says a disk is: nothing is counted along the way, but all of it anew whenever it is asked.
type model struct {
	room, last int
	things     map[int]*thing
}

type thing struct {
	kind, mode, holds int
	data              string
	names             map[string]int
}

func newModel(room int) *model {
	return &model{room: room, last: 1, things: map[int]*thing{1: {kind: Folder, mode: 0o755, names: map[string]int{}}}}
}

func (m *model) links(id int) int {
	links := 0
	if id == 1 {
		links = 1
	}
	for _, x := range m.things {
		for _, k := range x.names {
			if k == id {
				links++
			}
		}
	}
	return links
}

func (m *model) used() int {
	used := 0
	for _, x := range m.things {
		used += len(x.data)
		for name := range x.names {
			used += len(name)
		}
	}
	return used
}

func (m *model) settle() {
	for again := true; again; {
		again = false
		for id, x := range m.things {
			if x.holds == 0 && m.links(id) == 0 {
				delete(m.things, id)
				again = true
			}
		}
	}
}

// up is the upper directory; 0: nothing is promised of it.
func (m *model) up(id int) int {
	if id == 1 {
		return 1
	}
	for upper, x := range m.things {
		for _, k := range x.names {
			if k == id {
				return upper
			}
		}
	}
	return 0
}

// below goes down from the upper one, not up from the other.
func (m *model) below(id, upper int) bool {
	for _, k := range m.things[upper].names {
		if k == id || m.below(id, k) {
			return true
		}
	}
	return false
}

func (m *model) info(id int) (Info, api.Errno) {
	x := m.things[id]
	if x == nil {
		return Info{}, api.ErrNone
	}
	return Info{Kind: x.kind, Mode: x.mode, Links: m.links(id), Holds: x.holds, Size: len(x.data) + len(x.names)}, api.OK
}

func isMode(m int) bool { return m >= 0 && m <= 0o7777 }

func (m *model) make(kind, mode int, data string) (int, api.Errno) {
	switch {
	case kind != 1 && kind != 2 && kind != 3, kind == 2 && data != "":
		return 0, api.ErrKind
	case !isMode(mode):
		return 0, api.ErrRange
	case len(data) > 1<<22:
		return 0, api.ErrLong
	case len(m.things) >= 1<<16:
		return 0, api.ErrMany
	case m.used()+len(data) > m.room:
		return 0, api.ErrSpace
	}
	m.last++
	m.things[m.last] = &thing{kind: kind, mode: mode, holds: 1, data: data, names: map[string]int{}}
	return m.last, api.OK
}

func (m *model) hold(id int) api.Errno {
	if m.things[id] == nil {
		return api.ErrNone
	}
	m.things[id].holds++
	return api.OK
}

func (m *model) release(id int) api.Errno {
	if m.things[id] == nil || m.things[id].holds == 0 {
		return api.ErrNone
	}
	m.things[id].holds--
	m.settle()
	return api.OK
}

func (m *model) chmod(id, mode int) api.Errno {
	switch {
	case m.things[id] == nil:
		return api.ErrNone
	case !isMode(mode):
		return api.ErrRange
	}
	m.things[id].mode = mode
	return api.OK
}

func (m *model) data(id int) (string, api.Errno) {
	switch x := m.things[id]; {
	case x == nil:
		return "", api.ErrNone
	case x.kind == Folder:
		return "", api.ErrIsDir
	default:
		return x.data, api.OK
	}
}

func (m *model) read(id, at, most int) (string, api.Errno) {
	s, e := m.data(id)
	if e != api.OK {
		return "", e
	}
	if at < 0 || most < 0 {
		return "", api.ErrRange
	}
	var out []byte
	for i := range len(s) {
		if i >= at && len(out) < most {
			out = append(out, s[i])
		}
	}
	return string(out), api.OK
}

func (m *model) write(id, at int, s string) api.Errno {
	old, e := m.data(id)
	switch {
	case e != api.OK:
		return e
	case m.things[id].kind == Symlink:
		return api.ErrKind
	case at < 0:
		return api.ErrRange
	case s == "":
		return api.OK
	case at > 1<<22 || at+len(s) > 1<<22:
		return api.ErrLong
	}
	now := old
	for len(now) < at {
		now += "\x00"
	}
	tail := ""
	if at+len(s) < len(now) {
		tail = now[at+len(s):]
	}
	now = now[:at] + s + tail
	if m.used()-len(old)+len(now) > m.room {
		return api.ErrSpace
	}
	m.things[id].data = now
	return api.OK
}

func (m *model) empty(id int) api.Errno {
	_, e := m.data(id)
	if e == api.OK && m.things[id].kind == Symlink {
		return api.ErrKind
	}
	if e == api.OK {
		m.things[id].data = ""
	}
	return e
}

func (m *model) folder(id int) api.Errno {
	switch x := m.things[id]; {
	case x == nil:
		return api.ErrNone
	case x.kind != Folder:
		return api.ErrNotDir
	}
	return api.OK
}

func (m *model) look(id int, name string) (int, api.Errno) {
	if e := m.folder(id); e != api.OK {
		return 0, e
	}
	if k := m.things[id].names[name]; k != 0 {
		return k, api.OK
	}
	return 0, api.ErrNone
}

func (m *model) list(id int) ([]dir.Entry, api.Errno) {
	if e := m.folder(id); e != api.OK {
		return nil, e
	}
	var list []dir.Entry
	for name, k := range m.things[id].names {
		list = append(list, dir.Entry{Name: name, Node: k})
	}
	slices.SortFunc(list, func(a, b dir.Entry) int { return strings.Compare(a.Name, b.Name) })
	return list, api.OK
}

func (m *model) mayPut(id int, name string) api.Errno {
	switch {
	case len(name) > 255:
		return api.ErrLong
	case name == "" || name == "." || name == ".." || strings.ContainsAny(name, "/\x00"):
		return api.ErrForm
	case m.things[id].names[name] != 0:
		return api.ErrExist
	}
	return api.OK
}

func (m *model) enter(id int, name string, k int) api.Errno {
	if e := m.folder(id); e != api.OK {
		return e
	}
	switch {
	case m.things[k] == nil:
		return api.ErrNone
	case k == 1 || m.things[k].kind == Folder && m.links(k) > 0:
		return api.ErrLinks
	case m.links(k) >= 1<<15:
		return api.ErrMany
	}
	if e := m.mayPut(id, name); e != api.OK {
		return e
	}
	if m.used()+len(name) > m.room {
		return api.ErrSpace
	}
	m.things[id].names[name] = k
	return api.OK
}

func (m *model) leave(id int, name string) api.Errno {
	k, e := m.look(id, name)
	if e != api.OK {
		return e
	}
	if len(m.things[k].names) > 0 {
		return api.ErrNotEmpty
	}
	delete(m.things[id].names, name)
	m.settle()
	return api.OK
}

func (m *model) move(from int, name string, to int, other string) api.Errno {
	k, e := m.look(from, name)
	if e != api.OK {
		return e
	}
	if e := m.folder(to); e != api.OK {
		return e
	}
	moves := m.things[k].kind == Folder
	if moves && (to == k || m.below(to, k)) {
		return api.ErrBusy
	}
	old := m.things[to].names[other]
	if old == k {
		return api.OK
	}
	if old != 0 {
		isFolder := m.things[old].kind == Folder
		switch {
		case moves && !isFolder:
			return api.ErrNotDir
		case !moves && isFolder:
			return api.ErrIsDir
		case len(m.things[old].names) > 0:
			return api.ErrNotEmpty
		}
	} else {
		if e := m.mayPut(to, other); e != api.OK {
			return e
		}
		if m.used()+len(other)-len(name) > m.room {
			return api.ErrSpace
		}
	}
	delete(m.things[from].names, name)
	m.things[to].names[other] = k
	m.settle()
	return api.OK
}

// agree holds all that a disk tells against the model.
func agree(t *testing.T, what string, d *Disk, m *model) {
	t.Helper()
	if d.Used() != m.used() || d.Room() != m.room || d.Count() != len(m.things) {
		t.Fatalf("%s: used %d of %d by %d nodes, want %d of %d by %d", what, d.Used(), d.Room(), d.Count(), m.used(), m.room, len(m.things))
	}
	for id := -1; id <= m.last+1; id++ {
		// What is long gone can't differ in anything but that it is gone.
		if m.things[id] == nil && id < m.last-8 && id > 0 {
			if _, e := d.Info(id); e != api.ErrNone {
				t.Fatalf("%s: Info of %d, that is gone, told %d", what, id, e)
			}
			continue
		}
		agreeOn(t, what, d, m, id)
	}
}

func agreeOn(t *testing.T, what string, d *Disk, m *model, id int) {
	t.Helper()
	info, e := d.Info(id)
	if want, we := m.info(id); info != want || e != we {
		t.Fatalf("%s: Info(%d) told %+v %d, want %+v %d", what, id, info, e, want, we)
	}
	data, e := d.Data(id)
	if want, we := m.data(id); data != want || e != we {
		t.Fatalf("%s: Data(%d) told %q %d, want %q %d", what, id, data, e, want, we)
	}
	list, e := d.List(id)
	if want, we := m.list(id); !slices.Equal(list, want) || e != we {
		t.Fatalf("%s: List(%d) told %#v %d, want %#v %d", what, id, list, e, want, we)
	}
	up, e := d.Up(id)
	if we := m.folder(id); we != api.OK && (up != 0 || e != we) {
		t.Fatalf("%s: Up(%d) told %d %d, want error %d", what, id, up, e, we)
	} else if want := m.up(id); we == api.OK && want != 0 && (up != want || e != api.OK) {
		t.Fatalf("%s: Up(%d) told %d %d, want %d", what, id, up, e, want)
	}
}
