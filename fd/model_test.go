package fd

import (
	"fmt"
	"slices"
	"testing"

	"seabag/api"
	"seabag/disk"
	"seabag/files"
)

// numbers are the same ones in each run, each below what is asked for.
func numbers(seed uint64) func(below int) int {
	state := seed
	return func(below int) int {
		state = state*6364136223846793005 + 1442695040888963407
		return int(state >> 33 % uint64(below))
	}
}

// file is one of the model's: who holds it is counted whenever that is asked.
type file struct {
	data  string
	mode  int
	links int
	id    int
}

// stream is a pipe of the model: all that was ever written, and how much of it was read.
type stream struct {
	bytes string
	read  int
}

// entry is a thing of the model.
type entry struct {
	file   *file
	stream *stream
	place  int
	flags  int
}

// world is the chapter, said over files in one directory, and tables that are lists of things.
type world struct {
	names       map[string]*file
	tables      []*[64]*entry
	room        int
	calls, fail int
}

// things are those that any number is of, each once.
func (w *world) things() []*entry {
	var list []*entry
	for _, t := range w.tables {
		for _, x := range t {
			if x != nil && !slices.Contains(list, x) {
				list = append(list, x)
			}
		}
	}
	return list
}

func (w *world) holds(f *file) int {
	n := 0
	for _, x := range w.things() {
		if x.file == f {
			n++
		}
	}
	return n
}

// all are the files that there are, by names or things, each once.
func (w *world) all() []*file {
	var list []*file
	for _, f := range w.names {
		if !slices.Contains(list, f) {
			list = append(list, f)
		}
	}
	for _, x := range w.things() {
		if x.file != nil && !slices.Contains(list, x.file) {
			list = append(list, x.file)
		}
	}
	return list
}

func (w *world) used() int {
	n := 0
	for name := range w.names {
		n += len(name)
	}
	for _, f := range w.all() {
		n += len(f.data)
	}
	return n
}

func (w *world) failed() bool {
	w.calls++
	return w.calls-1 == w.fail
}

// seek is the error of what can't be a file, ahead of all else.
func seek(s string) api.Errno {
	switch s {
	case "", "x/y":
		return api.ErrNone
	case "a\x00":
		return api.ErrForm
	case ".":
		return api.ErrIsDir
	}
	return api.OK
}

// open is the file that is to be of a number.
func (w *world) open(s string, flags, m int) (*file, api.Errno) {
	has := func(flag int) bool { return flags/flag%2 == 1 }
	if (has(4) || has(8)) && w.failed() {
		return nil, api.ErrIO
	}
	if s == "." && has(4) && has(16) {
		return nil, api.ErrExist
	}
	if e := seek(s); e != api.OK {
		return nil, e
	}
	f := w.names[s]
	switch {
	case f == nil && !has(4):
		return nil, api.ErrNone
	case f == nil && w.used()+len(s) > w.room:
		return nil, api.ErrSpace
	case f == nil:
		f = &file{mode: m, links: 1}
		w.names[s] = f
	case has(4) && has(16):
		return nil, api.ErrExist
	case has(1) && f.mode&0o400 == 0 || (has(2) || has(8)) && f.mode&0o200 == 0:
		return nil, api.ErrDenied
	case has(8):
		f.data = ""
	}
	return f, api.OK
}

func (w *world) number(n int) bool { return n > -1 && n < 64 }

func (w *world) at(t *[64]*entry, n int) *entry {
	if !w.number(n) {
		return nil
	}
	return t[n]
}

func (w *world) read(x *entry, most int) (string, api.Errno) {
	switch {
	case x == nil || x.flags%2 == 0:
		return "", api.ErrFd
	case x.stream != nil:
		s := ""
		for ; most > 0 && x.stream.read < len(x.stream.bytes); most-- {
			s += string(x.stream.bytes[x.stream.read])
			x.stream.read++
		}
		return s, api.OK
	}
	var s []byte
	for ; most > 0 && x.place < len(x.file.data); most-- {
		s = append(s, x.file.data[x.place])
		x.place++
	}
	return string(s), api.OK
}

func (w *world) write(x *entry, s string) api.Errno {
	switch {
	case x == nil || x.flags/2%2 == 0:
		return api.ErrFd
	case s == "":
		return api.OK
	case x.stream != nil:
		x.stream.bytes += s
		return api.OK
	case w.failed():
		return api.ErrIO
	}
	at := x.place
	if x.flags/32%2 == 1 {
		at = len(x.file.data)
	}
	now := []byte(x.file.data)
	for len(now) < at+len(s) {
		now = append(now, 0)
	}
	if w.used()+len(now)-len(x.file.data) > w.room {
		return api.ErrSpace
	}
	copy(now[at:], s)
	x.file.data, x.place = string(now), at+len(s)
	return api.OK
}

func (w *world) unlink(s string) api.Errno {
	if w.failed() {
		return api.ErrIO
	}
	if w.names[s] == nil {
		return api.ErrNone
	}
	w.names[s].links--
	delete(w.names, s)
	return api.OK
}

// pair is tables and their model, to both of which the same is done.
type pair struct {
	t      *testing.T
	f      *files.Files
	tables []*Table
	pipes  []*Pipe
	// Each pipe's model.
	streams []*stream
	w       *world
	next    func(int) int
	seen    map[string]int
}

// number is mostly one of few, so that they meet.
func (p *pair) number() int {
	switch p.next(20) {
	case 0:
		return -1 - p.next(3)
	case 1:
		return 64 + p.next(3)
	case 2:
		return 63
	}
	return p.next(6)
}

func (p *pair) path() string {
	return []string{"a", "b", "cc", "ddd", "a", "b", "cc", "", "x/y", "a\x00", "."}[p.next(11)]
}

func (p *pair) text() string {
	s := ""
	for range p.next(7) {
		s += string(rune('a' + p.next(26)))
	}
	return s
}

// flags are mostly such as one would read or write with.
func (p *pair) flags() int {
	switch p.next(4) {
	case 0:
		return p.next(64)
	case 1:
		return files.Read
	case 2:
		return files.Write | files.Create | Append*p.next(2)
	}
	return files.Read | files.Write | files.Create*p.next(2) | Append*p.next(2)
}

// do does one call to both; what it was, and what both told.
func (p *pair) do() (string, api.Errno, api.Errno) {
	k := p.next(len(p.tables))
	x, m := p.tables[k], p.w.tables[k]
	n, to := p.number(), p.number()
	switch p.next(17) {
	case 0, 1, 2:
		return p.open(x, m, n)
	case 3:
		return p.lay(x, m, n)
	case 4, 5:
		want := api.ErrFd
		if p.w.at(m, n) != nil && p.w.number(to) {
			m[to], want = m[n], api.OK
		}
		return "Dup", x.Dup(n, to), want
	case 6:
		want := api.ErrFd
		if p.w.at(m, n) != nil {
			m[n], want = nil, api.OK
		}
		return "Close", x.Close(n), want
	case 7, 8, 9, 10:
		return p.read(x, m, n)
	case 11, 12, 13, 14:
		s := p.text()
		return "Write", x.Write(n, s), p.w.write(p.w.at(m, n), s)
	case 15:
		return p.change()
	}
	return p.whole(k)
}

func (p *pair) open(x *Table, m *[64]*entry, n int) (string, api.Errno, api.Errno) {
	s, flags, mode := p.path(), p.flags(), []int{0o644, 0o600, 0o400, 0o200, 0}[max(p.next(10)-5, 0)]
	e := x.Open(n, atRoot, s, flags, mode)
	if !p.w.number(n) {
		return "Open", e, api.ErrFd
	}
	f, want := p.w.open(s, flags, mode)
	if want == api.OK {
		m[n] = &entry{file: f, flags: flags}
		id, ok := x.Node(n)
		if !ok || f.id != 0 && f.id != id {
			p.t.Fatalf("Node(%d) told %d %v, want %d", n, id, ok, f.id)
		}
		f.id = id
	}
	return "Open", e, want
}

func (p *pair) lay(x *Table, m *[64]*entry, n int) (string, api.Errno, api.Errno) {
	if len(p.pipes) < 4 {
		s := p.text()
		p.pipes, p.streams = append(p.pipes, NewPipe(s)), append(p.streams, &stream{bytes: s})
	}
	i, flags := p.next(len(p.pipes)), p.flags()
	e := x.Lay(n, p.pipes[i], flags)
	if !p.w.number(n) {
		return "Lay", e, api.ErrFd
	}
	m[n] = &entry{stream: p.streams[i], flags: flags}
	return "Lay", e, api.OK
}

func (p *pair) read(x *Table, m *[64]*entry, n int) (string, api.Errno, api.Errno) {
	most := p.next(8) - 1
	want, we := p.w.read(p.w.at(m, n), most)
	got, e := x.Read(n, most)
	if got != want {
		p.t.Fatalf("Read(%d, %d) told %q %d, want %q %d", n, most, got, e, want, we)
	}
	return "Read", e, we
}

// change is done to the files, not by the tables.
func (p *pair) change() (string, api.Errno, api.Errno) {
	s := []string{"a", "b", "cc", "ddd"}[p.next(4)]
	if p.next(2) == 0 {
		return "Unlink", p.f.Unlink(atRoot, s), p.w.unlink(s)
	}
	mode := []int{0o644, 0o600, 0o400, 0}[p.next(4)]
	e := p.f.Chmod(atRoot, s, mode)
	want := api.ErrNone
	switch f := p.w.names[s]; {
	case p.w.failed():
		want = api.ErrIO
	case f != nil:
		f.mode, want = mode, api.OK
	}
	return "Chmod", e, want
}

// whole is done to a table as a whole, or to a pipe.
func (p *pair) whole(k int) (string, api.Errno, api.Errno) {
	switch n := p.next(6); {
	case n < 3 && len(p.tables) < 4:
		list := *p.w.tables[k]
		p.tables, p.w.tables = append(p.tables, p.tables[k].Clone()), append(p.w.tables, &list)
		return "Clone", api.OK, api.OK
	case n < 4 && len(p.pipes) > 0:
		i, s := p.next(len(p.pipes)), p.text()
		p.streams[i].bytes += s
		return "Pipe.Write", p.pipes[i].Write(s), api.OK
	case n < 5 && len(p.pipes) > 0:
		i, most := p.next(len(p.pipes)), p.next(4)
		want, _ := p.w.read(&entry{stream: p.streams[i], flags: 1}, most)
		if got := p.pipes[i].Read(most); got != want {
			p.t.Fatalf("a pipe's Read(%d) told %q, want %q", most, got, want)
		}
		return "Pipe.Read", api.OK, api.OK
	}
	p.tables[k].Shut()
	*p.w.tables[k] = [64]*entry{}
	return "Shut", api.OK, api.OK
}

// agree holds all that is told against the model.
func (p *pair) agree(what string) {
	t, d := p.t, p.f.Disk()
	t.Helper()
	all := p.w.all()
	if d.Used() != p.w.used() || d.Count() != len(all)+1 || p.f.Calls() != p.w.calls {
		t.Fatalf("%s: %d bytes, %d nodes, %d calls; want %d, %d, %d", what, d.Used(), d.Count(), p.f.Calls(), p.w.used(), len(all)+1, p.w.calls)
	}
	for _, f := range all {
		want := disk.Info{Kind: disk.File, Mode: f.mode, Links: f.links, Holds: p.w.holds(f), Size: len(f.data)}
		info, e := d.Info(f.id)
		data, _ := d.Data(f.id)
		if info != want || e != api.OK || data != f.data {
			t.Fatalf("%s: the node %d is %+v %d with %q, want %+v with %q", what, f.id, info, e, data, want, f.data)
		}
	}
	for i, q := range p.pipes {
		if s := p.streams[i]; q.Left() != s.bytes[s.read:] {
			t.Fatalf("%s: in the pipe %d %q is left, want %q", what, i, q.Left(), s.bytes[s.read:])
		}
	}
	for k := range p.tables {
		p.agreeOn(what, k)
	}
}

func (p *pair) agreeOn(what string, k int) {
	t, x, m := p.t, p.tables[k], p.w.tables[k]
	t.Helper()
	var have []int
	for n := -2; n < 66; n++ {
		e := p.w.at(m, n)
		if e != nil {
			have = append(have, n)
		}
		wantNode, wantE := 0, api.ErrFd
		if e != nil && e.file != nil {
			wantNode, wantE = e.file.id, api.OK
		}
		id, ok := x.Node(n)
		info, ie := x.Info(n)
		wantInfo, _ := p.f.Disk().Info(wantNode)
		if x.Has(n) != (e != nil) || id != wantNode || ok != (wantNode != 0) || info != wantInfo || ie != wantE {
			t.Fatalf("%s: %d of the table %d is %v, of %d %v %+v %d, want %v", what, n, k, x.Has(n), id, ok, info, ie, e)
		}
	}
	if got := x.Numbers(); !slices.Equal(got, have) {
		t.Fatalf("%s: the table %d has the numbers %v, want %v", what, k, got, have)
	}
	for range 5 {
		a, b := p.number(), p.number()
		if want := p.w.at(m, a) != nil && p.w.at(m, a) == p.w.at(m, b); x.Same(a, b) != want {
			t.Fatalf("%s: Same(%d, %d) of the table %d told %v", what, a, b, k, !want)
		}
	}
}

func TestTablesByChance(t *testing.T) {
	next := numbers(7)
	seen := map[string]int{}
	for range 600 {
		room, fail := []int{10, 20, 40, 1 << 20}[next(4)], next(100)-20
		p := &pair{t: t, f: begin(t, room, fail), next: next, seen: seen}
		p.tables = []*Table{New(p.f)}
		p.w = &world{names: map[string]*file{}, tables: []*[64]*entry{{}}, room: room, fail: fail}
		for i := range 200 {
			what, e, want := p.do()
			if e != want {
				t.Fatalf("call %d, %s, told %d, want %d", i, what, e, want)
			}
			seen[fmt.Sprint(what, " ", e)]++
			p.agree(what)
		}
		for k := range p.tables {
			p.tables[k].Shut()
			*p.w.tables[k] = [64]*entry{}
		}
		p.agree("the end")
	}
	wantSeen(t, seen)
}

// wantSeen: what was never told says nothing of it.
func wantSeen(t *testing.T, seen map[string]int) {
	t.Helper()
	for what, errors := range map[string][]api.Errno{
		"Open":       {api.OK, api.ErrFd, api.ErrIO, api.ErrNone, api.ErrForm, api.ErrIsDir, api.ErrExist, api.ErrDenied, api.ErrSpace},
		"Lay":        {api.OK, api.ErrFd},
		"Dup":        {api.OK, api.ErrFd},
		"Close":      {api.OK, api.ErrFd},
		"Read":       {api.OK, api.ErrFd},
		"Write":      {api.OK, api.ErrFd, api.ErrIO, api.ErrSpace},
		"Unlink":     {api.OK, api.ErrNone},
		"Chmod":      {api.OK, api.ErrNone},
		"Clone":      {api.OK},
		"Shut":       {api.OK},
		"Pipe.Write": {api.OK},
		"Pipe.Read":  {api.OK},
	} {
		for _, e := range errors {
			if n := seen[fmt.Sprint(what, " ", e)]; n < 20 {
				t.Errorf("%s told %d only %d times", what, e, n)
			}
		}
	}
}
