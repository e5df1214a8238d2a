package walk

import (
	"fmt"
	"slices"
	"strings"
	"testing"

	"seabag/api"
	"seabag/dir"
	"seabag/disk"
)

// numbers are the same ones in each run, each below what is asked for.
func numbers(seed uint64) func(below int) int {
	state := seed
	return func(below int) int {
		state = state*6364136223846793005 + 1442695040888963407
		return int(state >> 33 % uint64(below))
	}
}

// told is all that a disk tells of itself.
type told struct {
	used, count int
	infos       []disk.Info
	data        []string
	lists       [][]dir.Entry
}

func tell(d *disk.Disk, last int) told {
	x := told{used: d.Used(), count: d.Count()}
	for id := range last + 2 {
		info, _ := d.Info(id)
		data, _ := d.Data(id)
		list, _ := d.List(id)
		x.infos, x.data, x.lists = append(x.infos, info), append(x.data, data), append(x.lists, list)
	}
	return x
}

func (x told) same(y told) bool {
	return x.used == y.used && x.count == y.count && slices.Equal(x.infos, y.infos) && slices.Equal(x.data, y.data) && slices.EqualFunc(x.lists, y.lists, slices.Equal[[]dir.Entry])
}

// model is the chapter, said byte by byte and by calls within one another, over what a disk told of itself.
type model struct {
	told
	links int
}

func (m *model) info(id int) disk.Info {
	if id < 0 || id >= len(m.infos) {
		return disk.Info{}
	}
	return m.infos[id]
}

func (m *model) entry(id int, name string) int {
	for _, x := range m.lists[id] {
		if x.Name == name {
			return x.Node
		}
	}
	return 0
}

func (m *model) up(id int) int {
	for upper, list := range m.lists {
		for _, x := range list {
			if x.Node == id {
				return upper
			}
		}
	}
	return 1
}

func (m *model) find(from int, s string, follow bool) (Place, api.Errno) {
	switch {
	case s == "":
		return Place{}, api.ErrNone
	case len(s) > 4095:
		return Place{}, api.ErrLong
	case strings.Contains(s, "\x00"):
		return Place{}, api.ErrForm
	}
	at := Place{Node: from}
	if s[0] == '/' {
		at.Node = 1
	}
	if strings.Trim(s, "/") == "" {
		return at, m.closed(1)
	}
	return m.rest(at, strings.TrimLeft(s, "/"), follow)
}

func (m *model) closed(id int) api.Errno {
	info := m.info(id)
	switch {
	case info.Kind == 0:
		return api.ErrNone
	case info.Kind != disk.Folder:
		return api.ErrNotDir
	case info.Mode/64%2 == 0:
		return api.ErrDenied
	}
	return api.OK
}

// rest goes on with what is left of a path: s is empty, or begins with a part.
func (m *model) rest(at Place, s string, follow bool) (Place, api.Errno) {
	if s == "" {
		return at, api.OK
	}
	if e := m.closed(at.Node); e != api.OK {
		return Place{}, e
	}
	part, left, slash := strings.Cut(s, "/")
	left = strings.TrimLeft(left, "/")
	last := left == ""
	ends := s[len(s)-1] == '/'
	switch {
	case part == ".":
		return m.rest(Place{Node: at.Node}, left, follow)
	case part == "..":
		return m.rest(Place{Node: m.up(at.Node)}, left, follow)
	case len(part) > 255:
		return Place{}, api.ErrLong
	}
	p := Place{Node: m.entry(at.Node, part), Dir: at.Node, Name: part}
	info := m.info(p.Node)
	if p.Node != 0 && info.Kind == disk.Symlink && (!last || slash || follow) {
		m.links++
		if m.links == 41 {
			return Place{}, api.ErrLoop
		}
		if target := m.data[p.Node]; target != "" {
			return m.find(at.Node, m.longer(target, left, ends), follow)
		}
	}
	switch {
	case p.Node == 0 && !last:
		return Place{}, api.ErrNone
	case p.Node != 0 && last && slash && info.Kind != disk.Folder:
		return Place{}, api.ErrNotDir
	}
	return m.rest(p, left, follow)
}

func (m *model) longer(s, left string, ends bool) string {
	for _, part := range strings.FieldsFunc(left, func(r rune) bool { return r == '/' }) {
		if s[len(s)-1] != '/' {
			s += "/"
		}
		s += part
	}
	if ends && s[len(s)-1] != '/' {
		s += "/"
	}
	return s
}

func (m *model) whole(id int) (string, api.Errno) {
	info := m.info(id)
	if info.Kind == 0 {
		return "", api.ErrNone
	}
	if info.Kind != disk.Folder {
		return "", api.ErrNotDir
	}
	return m.down(1, "", id), api.OK
}

// down goes through all directories from one on till it comes to id, not up from that.
func (m *model) down(at int, s string, id int) string {
	if at == id {
		if s == "" {
			return "/"
		}
		return s
	}
	for _, x := range m.lists[at] {
		if m.infos[x.Node].Kind == disk.Folder {
			if found := m.down(x.Node, s+"/"+x.Name, id); found != "" {
				return found
			}
		}
	}
	return ""
}

// somePart is a part that is often there, and at times none that may be.
func somePart(next func(int) int) string {
	switch next(24) {
	case 0, 1:
		return "."
	case 2, 3, 4:
		return ".."
	case 5:
		return "none"
	case 6:
		return repeat("n", 254+next(4))
	case 7:
		return repeat("..", 1+next(3))
	}
	return string(rune('a' + next(8)))
}

func somePath(next func(int) int) string {
	s := ""
	for range next(4) {
		s += "/"
	}
	if next(2) == 0 {
		s = ""
	}
	for i := range next(6) {
		if i > 0 {
			s += repeat("/", 1+next(5)/4)
		}
		s += somePart(next)
	}
	switch next(30) {
	case 0:
		s += "\x00"
	case 1:
		s = repeat("./", 2040) + s
	case 2:
		s = repeat("/", 4085+next(10)) + s
	case 3, 4, 5, 6, 7:
		s += "/"
	case 8:
		s += "//"
	}
	return s
}

// someDisk is a disk whose directories are all come to from the root; how great the greatest number is, too.
func someDisk(t *testing.T, next func(int) int) (*disk.Disk, int) {
	t.Helper()
	d := newDisk(t)
	folders := []int{disk.Root}
	last := disk.Root
	for range 30 {
		at := folders[next(len(folders))]
		name := somePart(next)
		if _, e := d.Look(at, name); e == api.OK || len(name) > 255 || strings.Trim(name, ".") == "" {
			continue
		}
		switch next(7) {
		case 0, 1, 2:
			mode := []int{0o755, 0o755, 0o755, 0o755, 0o100, 0o7777, 0o677, 0}[next(8)]
			last = put(t, d, at, name, disk.Folder, mode, "")
			folders = append(folders, last)
		case 3:
			last = file(t, d, at, name)
		default:
			target := somePath(next)
			if next(12) == 0 {
				target = ""
			}
			last = link(t, d, at, name, target)
		}
	}
	return d, last
}

func agree(t *testing.T, d *disk.Disk, x told, from int, s string, follow bool, seen map[string]int) {
	t.Helper()
	m := &model{told: x}
	want, we := m.find(from, s, follow)
	if we != api.OK {
		want = Place{}
	}
	wantPlace(t, "a disk by chance", d, row{from, s, follow, want, we})
	seen[fmt.Sprint("error ", we)]++
	if m.links > 0 {
		seen[fmt.Sprint("behind a link, error ", we)]++
	}
	if we == api.OK && want.Node == 0 {
		seen["no node"]++
	}
}

func TestDisksByChance(t *testing.T) {
	next := numbers(5)
	seen := map[string]int{}
	for range 400 {
		d, last := someDisk(t, next)
		before := tell(d, last)
		for range 150 {
			from := next(last+2) + next(40)/39*-3
			agree(t, d, before, from, somePath(next), next(2) == 0, seen)
		}
		for id := range last + 2 {
			want, we := (&model{told: before}).whole(id)
			wantWhole(t, d, id, want, we)
		}
		if !before.same(tell(d, last)) {
			t.Fatal("the disk has changed")
		}
		if t.Failed() {
			return
		}
	}
	wantSeen(t, seen)
}

// wantSeen: disks on which nothing was ever told would say nothing of it.
func wantSeen(t *testing.T, seen map[string]int) {
	t.Helper()
	for _, e := range []api.Errno{api.OK, api.ErrNone, api.ErrLong, api.ErrForm, api.ErrNotDir, api.ErrDenied, api.ErrLoop} {
		for _, key := range []string{fmt.Sprint("error ", e), fmt.Sprint("behind a link, error ", e), "no node"} {
			if seen[key] < 20 {
				t.Errorf("%s was met %d times alone", key, seen[key])
			}
		}
	}
}
