package files

import (
	"fmt"
	"maps"
	"slices"
	"strings"
	"testing"

	"seabag/api"
	"seabag/dir"
	"seabag/disk"
)

// numbers are the same ones in each run, each below what is asked for.
func numbers(seed uint64) func(below int) int {
	state := seed
	return func(below int) int {
		state = state*6364136223846793005 + 1442695040888963407
		return int(state >> 33 % uint64(below))
	}
}

// thing is a node of the model: things hold one another, and are counted and summed up whenever that is asked.
type thing struct {
	kind, mode, holds int
	data              string
	names             map[string]*thing
	// The number that the disk gave it, learnt when it is first seen there.
	id int
}

// model is the chapter, said over things.
type model struct {
	root        *thing
	opened      []*thing
	room        int
	calls, fail int
	links       int
}

func newModel(room, fail int) *model {
	return &model{root: &thing{kind: disk.Folder, mode: 0o755, names: map[string]*thing{}, id: 1}, room: room, fail: fail}
}

// all are the things that there are, each once, in no order.
func (m *model) all() []*thing {
	var list []*thing
	have := map[*thing]bool{}
	add := func(x *thing) {
		if !have[x] {
			have[x] = true
			list = append(list, x)
		}
	}
	add(m.root)
	for _, x := range m.opened {
		add(x)
	}
	for i := 0; i < len(list); i++ {
		for _, x := range list[i].names {
			add(x)
		}
	}
	return list
}

func (m *model) used() int {
	n := 0
	for _, x := range m.all() {
		n += len(x.data)
		for name := range x.names {
			n += len(name)
		}
	}
	return n
}

// linksTo are how many entries name each thing; of the root one more.
func (m *model) linksTo() map[*thing]int {
	links := map[*thing]int{m.root: 1}
	for _, x := range m.all() {
		for _, y := range x.names {
			links[y]++
		}
	}
	return links
}

func (m *model) upper(x *thing) *thing {
	for _, y := range m.all() {
		for _, z := range y.names {
			if z == x {
				return y
			}
		}
	}
	return m.root
}

func (m *model) byNumber(id int) *thing {
	for _, x := range m.all() {
		if x.id == id {
			return x
		}
	}
	return nil
}

// place is where a path leads.
type place struct {
	node, dir *thing
	name      string
}

func (m *model) find(from *thing, s string, follow bool) (place, api.Errno) {
	m.links = 0
	return m.along(from, s, follow)
}

func (m *model) along(from *thing, s string, follow bool) (place, api.Errno) {
	switch {
	case s == "":
		return place{}, api.ErrNone
	case len(s) > 4095:
		return place{}, api.ErrLong
	case strings.Contains(s, "\x00"):
		return place{}, api.ErrForm
	}
	if s[0] == '/' {
		from = m.root
	}
	if strings.Trim(s, "/") == "" {
		return place{node: from}, m.mayLook(from)
	}
	return m.rest(place{node: from}, strings.TrimLeft(s, "/"), follow)
}

func (m *model) mayLook(x *thing) api.Errno {
	switch {
	case x == nil:
		return api.ErrNone
	case x.kind != disk.Folder:
		return api.ErrNotDir
	case x.mode/64%2 == 0:
		return api.ErrDenied
	}
	return api.OK
}

func (m *model) rest(at place, s string, follow bool) (place, api.Errno) {
	if s == "" {
		return at, api.OK
	}
	if e := m.mayLook(at.node); e != api.OK {
		return place{}, e
	}
	part, left, slash := strings.Cut(s, "/")
	left = strings.TrimLeft(left, "/")
	switch {
	case part == ".":
		return m.rest(place{node: at.node}, left, follow)
	case part == "..":
		return m.rest(place{node: m.upper(at.node)}, left, follow)
	case len(part) > 255:
		return place{}, api.ErrLong
	}
	p := place{at.node.names[part], at.node, part}
	if p.node != nil && p.node.kind == disk.Symlink && (slash || follow) {
		if m.links++; m.links > 40 {
			return place{}, api.ErrLoop
		}
		return m.along(at.node, behind(p.node.data, left, slash), follow)
	}
	switch {
	case p.node == nil && left != "":
		return place{}, api.ErrNone
	case p.node != nil && left == "" && slash && p.node.kind != disk.Folder:
		return place{}, api.ErrNotDir
	}
	return m.rest(p, left, follow)
}

// behind leaves slashes doubled: parts are the same then.
func behind(target, left string, slash bool) string {
	if slash && !strings.HasSuffix(target, "/") {
		target += "/"
	}
	return target + left
}

func (m *model) there(from *thing, s string, follow bool) (place, api.Errno) {
	p, e := m.find(from, s, follow)
	if e == api.OK && p.node == nil {
		e = api.ErrNone
	}
	if e != api.OK {
		return place{}, e
	}
	return p, api.OK
}

func (m *model) failed() bool {
	m.calls++
	return m.calls-1 == m.fail
}

func lacks(x *thing, digit int) bool { return x.mode/64&digit == 0 }

func (m *model) comes(from *thing, s string, folder bool) (place, api.Errno) {
	p, e := m.find(from, s, false)
	switch {
	case e != api.OK:
		return place{}, e
	case p.node != nil:
		return place{}, api.ErrExist
	case s[len(s)-1] == '/' && !folder:
		return place{}, api.ErrNone
	case lacks(p.dir, 2):
		return place{}, api.ErrDenied
	}
	return p, api.OK
}

func (m *model) put(p place, x *thing) api.Errno {
	if m.used()+len(x.data)+len(p.name) > m.room {
		return api.ErrSpace
	}
	p.dir.names[p.name] = x
	return api.OK
}

func (m *model) mkdir(from *thing, s string, mode, mask int) api.Errno {
	if m.failed() {
		return api.ErrIO
	}
	p, e := m.comes(from, s, true)
	if e != api.OK {
		return e
	}
	return m.put(p, &thing{kind: disk.Folder, mode: mode &^ (mask & 0o777), names: map[string]*thing{}})
}

func (m *model) symlink(from *thing, target, s string) api.Errno {
	switch {
	case m.failed():
		return api.ErrIO
	case target == "":
		return api.ErrNone
	case len(target) > 4095:
		return api.ErrLong
	case strings.Contains(target, "\x00"):
		return api.ErrForm
	}
	p, e := m.comes(from, s, false)
	if e != api.OK {
		return e
	}
	return m.put(p, &thing{kind: disk.Symlink, mode: 0o777, data: target})
}

func (m *model) link(from *thing, old, s string) api.Errno {
	if m.failed() {
		return api.ErrIO
	}
	x, e := m.there(from, old, false)
	switch {
	case e != api.OK:
		return e
	case x.node.kind == disk.Folder:
		return api.ErrLinks
	}
	p, e := m.comes(from, s, false)
	switch {
	case e != api.OK:
		return e
	case m.used()+len(p.name) > m.room:
		return api.ErrSpace
	}
	p.dir.names[p.name] = x.node
	return api.OK
}

func (m *model) remove(from *thing, s string, folder bool) api.Errno {
	if m.failed() {
		return api.ErrIO
	}
	p, e := m.there(from, s, false)
	switch {
	case e != api.OK:
		return e
	case folder && p.node.kind != disk.Folder:
		return api.ErrNotDir
	case !folder && p.node.kind == disk.Folder:
		return api.ErrIsDir
	case p.dir == nil:
		return api.ErrBusy
	case lacks(p.dir, 2):
		return api.ErrDenied
	case len(p.node.names) > 0:
		return api.ErrNotEmpty
	}
	delete(p.dir.names, p.name)
	return api.OK
}

func (m *model) rename(from *thing, a, b string) api.Errno {
	if m.failed() {
		return api.ErrIO
	}
	p, e := m.there(from, a, false)
	if e != api.OK {
		return e
	}
	q, e := m.find(from, b, false)
	switch {
	case e != api.OK:
		return e
	case p.dir == nil || q.dir == nil:
		return api.ErrBusy
	case q.node == nil && b[len(b)-1] == '/' && p.node.kind != disk.Folder:
		return api.ErrNotDir
	case lacks(p.dir, 2) || lacks(q.dir, 2):
		return api.ErrDenied
	}
	return m.move(p, q)
}

func (m *model) move(p, q place) api.Errno {
	folder := p.node.kind == disk.Folder
	if folder && m.within(q.dir, p.node) {
		return api.ErrBusy
	}
	switch {
	case q.node == p.node:
		return api.OK
	case q.node == nil && m.used()+len(q.name)-len(p.name) > m.room:
		return api.ErrSpace
	case q.node == nil:
	case folder && q.node.kind != disk.Folder:
		return api.ErrNotDir
	case !folder && q.node.kind == disk.Folder:
		return api.ErrIsDir
	case len(q.node.names) > 0:
		return api.ErrNotEmpty
	}
	delete(p.dir.names, p.name)
	q.dir.names[q.name] = p.node
	return api.OK
}

// within goes down from the upper one.
func (m *model) within(x, upper *thing) bool {
	if x == upper {
		return true
	}
	for _, y := range upper.names {
		if m.within(x, y) {
			return true
		}
	}
	return false
}

func (m *model) chmod(from *thing, s string, mode int) api.Errno {
	if m.failed() {
		return api.ErrIO
	}
	p, e := m.there(from, s, true)
	if e == api.OK {
		p.node.mode = mode
	}
	return e
}

func (m *model) open(from *thing, s string, flags, mode, mask int) (*thing, api.Errno) {
	has := func(flag int) bool { return flags/flag%2 == 1 }
	if (has(4) || has(8)) && m.failed() {
		return nil, api.ErrIO
	}
	p, e := m.find(from, s, !(has(4) && has(16)))
	if e != api.OK {
		return nil, e
	}
	if p.node == nil {
		switch {
		case !has(4):
			return nil, api.ErrNone
		case s[len(s)-1] == '/':
			return nil, api.ErrIsDir
		case lacks(p.dir, 2):
			return nil, api.ErrDenied
		}
		x := &thing{kind: disk.File, mode: mode &^ (mask & 0o777)}
		if e := m.put(p, x); e != api.OK {
			return nil, e
		}
		p.node = x
	} else {
		switch {
		case has(4) && has(16):
			return nil, api.ErrExist
		case p.node.kind == disk.Folder:
			return nil, api.ErrIsDir
		case has(1) && lacks(p.node, 4) || (has(2) || has(8)) && lacks(p.node, 2):
			return nil, api.ErrDenied
		case has(8):
			p.node.data = ""
		}
	}
	p.node.holds++
	m.opened = append(m.opened, p.node)
	return p.node, api.OK
}

func (m *model) close(id int) api.Errno {
	x := m.byNumber(id)
	if x == nil || x.holds == 0 {
		return api.ErrNone
	}
	x.holds--
	at := slices.Index(m.opened, x)
	m.opened = slices.Delete(m.opened, at, at+1)
	return api.OK
}

func (m *model) write(id, at int, s string) api.Errno {
	if m.failed() {
		return api.ErrIO
	}
	x := m.byNumber(id)
	switch {
	case x == nil:
		return api.ErrNone
	case x.kind == disk.Folder:
		return api.ErrIsDir
	case x.kind == disk.Symlink:
		return api.ErrKind
	case at < 0:
		return api.ErrRange
	case s == "":
		return api.OK
	}
	now := x.data
	for len(now) < at+len(s) {
		now += "\x00"
	}
	if m.used()+len(now)-len(x.data) > m.room {
		return api.ErrSpace
	}
	x.data = now[:at] + s + now[at+len(s):]
	return api.OK
}

// pair is a disk and its model, to both of which the same is done.
type pair struct {
	t    *testing.T
	f    *Files
	m    *model
	next func(int) int
	last int
	seen map[string]int
}

func (p *pair) part() string {
	switch p.next(30) {
	case 0, 1:
		return "."
	case 2, 3, 4:
		return ".."
	case 5:
		return repeat("n", 254+p.next(4))
	case 6:
		return "longer"
	}
	return string(rune('a' + p.next(5)))
}

func (p *pair) path() string {
	s := repeat("/", p.next(3)/2)
	for i := range 1 + p.next(3) {
		if i > 0 {
			s += repeat("/", 1+p.next(6)/5)
		}
		s += p.part()
	}
	switch p.next(40) {
	case 0:
		return s + "\x00"
	case 1:
		return repeat("/", 4085+p.next(9)) + s
	case 2:
		return ""
	case 3, 4, 5, 6:
		return s + "/"
	case 7:
		return "//"
	}
	return s
}

func (p *pair) mode() int {
	return []int{0o777, 0o755, 0o700, 0o7777, 0o666, 0o500, 0o300, 0o644, 0o400, 0o077, 0}[p.next(11)]
}

// user is mostly where something is, and mostly without a mask that takes much away.
func (p *pair) user() (Who, *thing) {
	w := Who{At: disk.Root, Mask: []int{0, 0o022, 0o077, 0o7027, 0o200}[p.next(5)]}
	switch p.next(4) {
	case 0:
		w.At = p.next(p.last + 3)
	case 1:
		w.At = p.folder()
	}
	return w, p.m.byNumber(w.At)
}

func (p *pair) folder() int {
	var ids []int
	for _, x := range p.m.all() {
		if x.kind == disk.Folder {
			ids = append(ids, x.id)
		}
	}
	slices.Sort(ids)
	return ids[p.next(len(ids))]
}

// do does one call to both; what it was, and what both told.
func (p *pair) do() (string, api.Errno, api.Errno) {
	w, at := p.user()
	a, b, mode := p.path(), p.path(), p.mode()
	switch n := p.next(16); n {
	case 0, 1, 2:
		return "Mkdir", p.f.Mkdir(w, a, mode), p.m.mkdir(at, a, mode, w.Mask)
	case 3:
		if p.next(20) == 0 {
			b = repeat("t", 4094+p.next(4))
		}
		return "Symlink", p.f.Symlink(w, b, a), p.m.symlink(at, b, a)
	case 4, 15:
		return "Link", p.f.Link(w, a, b), p.m.link(at, a, b)
	case 5:
		return "Rmdir", p.f.Rmdir(w, a), p.m.remove(at, a, true)
	case 6:
		return "Unlink", p.f.Unlink(w, a), p.m.remove(at, a, false)
	case 7, 8:
		return "Rename", p.f.Rename(w, a, b), p.m.rename(at, a, b)
	case 9:
		return "Chmod", p.f.Chmod(w, a, mode), p.m.chmod(at, a, mode)
	case 10, 11:
		return p.open(w, at, a, p.next(32), mode)
	case 12:
		id := p.next(p.last + 3)
		return "Close", p.f.Close(id), p.m.close(id)
	default:
		id, from, s := p.next(p.last+3), p.next(12)-1, repeat("w", p.next(12))
		return "Write", p.f.Write(id, from, s), p.m.write(id, from, s)
	}
}

func (p *pair) open(w Who, at *thing, s string, flags, mode int) (string, api.Errno, api.Errno) {
	id, e := p.f.Open(w, s, flags, mode)
	x, want := p.m.open(at, s, flags, mode, w.Mask)
	switch {
	case x == nil && id != 0:
		p.t.Fatalf("beside the error %d Open told %d", e, id)
	case x != nil && x.id == 0:
		p.learn(x, id)
	case x != nil && x.id != id:
		p.t.Fatalf("Open told %d, want %d", id, x.id)
	}
	return "Open", e, want
}

// learn: a new node has a number behind all others.
func (p *pair) learn(x *thing, id int) {
	p.t.Helper()
	if id <= p.last {
		p.t.Fatalf("a new node has the number %d, where there was %d", id, p.last)
	}
	x.id, p.last = id, id
}

// agree holds all that is told of the disk against the model.
func (p *pair) agree(what string) {
	t, d := p.t, p.f.Disk()
	t.Helper()
	all := p.m.all()
	for _, x := range all {
		list, _ := d.List(x.id)
		for i, name := range slices.Sorted(maps.Keys(x.names)) {
			if x.names[name].id == 0 && i < len(list) {
				p.learn(x.names[name], list[i].Node)
			}
		}
	}
	if d.Used() != p.m.used() || d.Count() != len(all) || p.f.Calls() != p.m.calls {
		t.Fatalf("%s: %d bytes, %d nodes, %d calls; want %d, %d, %d", what, d.Used(), d.Count(), p.f.Calls(), p.m.used(), len(all), p.m.calls)
	}
	links := p.m.linksTo()
	for _, x := range all {
		p.agreeOn(what, x, links[x])
	}
}

func (x *thing) list() []dir.Entry {
	var list []dir.Entry
	for _, name := range slices.Sorted(maps.Keys(x.names)) {
		list = append(list, dir.Entry{Name: name, Node: x.names[name].id})
	}
	return list
}

func (x *thing) info(links int) disk.Info {
	return disk.Info{Kind: x.kind, Mode: x.mode, Links: links, Holds: x.holds, Size: len(x.data) + len(x.names)}
}

func (p *pair) agreeOn(what string, x *thing, links int) {
	t, d := p.t, p.f.Disk()
	t.Helper()
	if info, e := d.Info(x.id); info != x.info(links) || e != api.OK {
		t.Fatalf("%s: the node %d is %+v %d, want %+v", what, x.id, info, e, x.info(links))
	}
	if data, _ := d.Data(x.id); data != x.data {
		t.Fatalf("%s: the node %d has %.40q, want %.40q", what, x.id, data, x.data)
	}
	if list, _ := d.List(x.id); !slices.Equal(list, x.list()) {
		t.Fatalf("%s: the node %d has %v, want %v", what, x.id, list, x.list())
	}
}

// asked holds the calls that change nothing against the model.
func (p *pair) asked() {
	w, at := p.user()
	s, follow := p.path(), p.next(2) == 0
	x, want := p.m.there(at, s, follow)
	id, info, e := p.f.Stat(w, s, follow)
	if e != want || e == api.OK && (id != x.node.id || info != x.node.info(p.m.linksTo()[x.node])) || e != api.OK && (id != 0 || info != disk.Info{}) {
		p.t.Fatalf("Stat of %.40q from %d told %d %+v %d, want error %d", s, w.At, id, info, e, want)
	}
	p.seen[fmt.Sprint("Stat ", e)]++
	p.askedLink(w, at, s)
	p.askedFolder(w, at, s)
	p.askedBytes()
	p.askedWhere(w, at)
}

func (p *pair) askedLink(w Who, at *thing, s string) {
	target, we := "", api.OK
	x, we := p.m.there(at, s, false)
	if we == api.OK && x.node.kind != disk.Symlink {
		we = api.ErrKind
	} else if we == api.OK {
		target = x.node.data
	}
	if got, e := p.f.Readlink(w, s); got != target || e != we {
		p.t.Fatalf("Readlink of %.40q from %d told %.40q %d, want %.40q %d", s, w.At, got, e, target, we)
	}
	p.seen[fmt.Sprint("Readlink ", we)]++
}

func (p *pair) askedFolder(w Who, at *thing, s string) {
	x, e := p.m.there(at, s, true)
	if e == api.OK && x.node.kind != disk.Folder {
		e = api.ErrNotDir
	}
	var list []dir.Entry
	le := e
	if e == api.OK && lacks(x.node, 4) {
		le = api.ErrDenied
	} else if e == api.OK {
		list = x.node.list()
	}
	if got, ge := p.f.List(w, s); !slices.Equal(got, list) || ge != le {
		p.t.Fatalf("List of %.40q from %d told %v %d, want %v %d", s, w.At, got, ge, list, le)
	}
	var there Who
	if e == api.OK && lacks(x.node, 1) {
		e = api.ErrDenied
	} else if e == api.OK {
		there = Who{At: x.node.id, Mask: w.Mask}
	}
	if got, ge := p.f.Chdir(w, s); got != there || ge != e {
		p.t.Fatalf("Chdir of %.40q from %d told %v %d, want %v %d", s, w.At, got, ge, there, e)
	}
	p.seen[fmt.Sprint("List ", le)]++
	p.seen[fmt.Sprint("Chdir ", e)]++
}

func (p *pair) askedBytes() {
	id, from, most := p.next(p.last+3), p.next(9)-1, p.next(9)-1
	want, we := "", api.OK
	switch x := p.m.byNumber(id); {
	case x == nil:
		we = api.ErrNone
	case x.kind == disk.Folder:
		we = api.ErrIsDir
	case from < 0 || most < 0:
		we = api.ErrRange
	default:
		for i := from; i < len(x.data) && i < from+most; i++ {
			want += x.data[i : i+1]
		}
	}
	if got, e := p.f.Read(id, from, most); got != want || e != we {
		p.t.Fatalf("Read of %d told %q %d, want %q %d", id, got, e, want, we)
	}
	p.seen[fmt.Sprint("Read ", we)]++
}

func (p *pair) askedWhere(w Who, at *thing) {
	want, we := "", api.OK
	switch {
	case at == nil:
		we = api.ErrNone
	case at.kind != disk.Folder:
		we = api.ErrNotDir
	default:
		want = "/" + strings.Join(wayTo(p.m.root, at), "/")
	}
	if got, e := p.f.Where(w); got != want || e != we {
		p.t.Fatalf("Where from %d told %q %d, want %q %d", w.At, got, e, want, we)
	}
	p.seen[fmt.Sprint("Where ", we)]++
}

// wayTo goes down till it comes to x, not up from that; nil: it doesn't come there.
func wayTo(from, x *thing) []string {
	if from == x {
		return []string{}
	}
	for name, below := range from.names {
		if way := wayTo(below, x); way != nil {
			return append([]string{name}, way...)
		}
	}
	return nil
}

func TestDisksByChance(t *testing.T) {
	next := numbers(6)
	seen := map[string]int{}
	for range 300 {
		room, fail := []int{15, 25, 40, 60, 400, 1 << 20, 1 << 20}[next(7)], next(240)-40
		p := &pair{t: t, f: begin(t, room, fail), m: newModel(room, fail), next: next, last: 1, seen: seen}
		for i := range 250 {
			what, e, want := p.do()
			if e != want {
				t.Fatalf("call %d, %s, told %d, want %d", i, what, e, want)
			}
			seen[fmt.Sprint(what, " ", e)]++
			p.agree(what)
			p.asked()
			// A root that nobody may go through says little.
			if i%10 == 0 {
				p.m.root.mode = 0o755
				p.f.Disk().Chmod(disk.Root, 0o755)
			}
		}
	}
	wantSeen(t, seen)
}

// wantSeen: what was never told says nothing of it.
func wantSeen(t *testing.T, seen map[string]int) {
	t.Helper()
	for what, errors := range map[string][]api.Errno{
		"Mkdir":    {api.OK, api.ErrIO, api.ErrNone, api.ErrLong, api.ErrForm, api.ErrNotDir, api.ErrDenied, api.ErrLoop, api.ErrExist, api.ErrSpace},
		"Symlink":  {api.OK, api.ErrIO, api.ErrNone, api.ErrLong, api.ErrForm, api.ErrNotDir, api.ErrDenied, api.ErrLoop, api.ErrExist, api.ErrSpace},
		"Link":     {api.OK, api.ErrIO, api.ErrNone, api.ErrLong, api.ErrForm, api.ErrNotDir, api.ErrDenied, api.ErrLoop, api.ErrLinks, api.ErrExist, api.ErrSpace},
		"Rmdir":    {api.OK, api.ErrIO, api.ErrNone, api.ErrLong, api.ErrForm, api.ErrNotDir, api.ErrBusy, api.ErrDenied, api.ErrNotEmpty},
		"Unlink":   {api.OK, api.ErrIO, api.ErrNone, api.ErrLong, api.ErrForm, api.ErrNotDir, api.ErrIsDir, api.ErrDenied},
		"Rename":   {api.OK, api.ErrIO, api.ErrNone, api.ErrLong, api.ErrForm, api.ErrNotDir, api.ErrIsDir, api.ErrBusy, api.ErrDenied, api.ErrNotEmpty, api.ErrSpace},
		"Chmod":    {api.OK, api.ErrIO, api.ErrNone, api.ErrLong, api.ErrForm, api.ErrNotDir, api.ErrDenied, api.ErrLoop},
		"Open":     {api.OK, api.ErrIO, api.ErrNone, api.ErrLong, api.ErrForm, api.ErrNotDir, api.ErrIsDir, api.ErrExist, api.ErrDenied, api.ErrLoop, api.ErrSpace},
		"Close":    {api.OK, api.ErrNone},
		"Write":    {api.OK, api.ErrIO, api.ErrNone, api.ErrIsDir, api.ErrKind, api.ErrRange, api.ErrSpace},
		"Stat":     {api.OK, api.ErrNone, api.ErrLong, api.ErrForm, api.ErrNotDir, api.ErrDenied, api.ErrLoop},
		"Readlink": {api.OK, api.ErrNone, api.ErrKind},
		"List":     {api.OK, api.ErrNone, api.ErrNotDir, api.ErrDenied},
		"Chdir":    {api.OK, api.ErrNone, api.ErrNotDir, api.ErrDenied},
		"Read":     {api.OK, api.ErrNone, api.ErrIsDir, api.ErrRange},
		"Where":    {api.OK, api.ErrNone, api.ErrNotDir},
	} {
		for _, e := range errors {
			if n := seen[fmt.Sprint(what, " ", e)]; n < 5 {
				t.Errorf("%s told %d only %d times", what, e, n)
			}
		}
	}
}
