package files

import (
	"fmt"
	"math"
	"slices"
	"strings"
	"testing"

	"seabag/api"
	"seabag/dir"
	"seabag/disk"
)

func repeat(s string, n int) string { return strings.Repeat(s, n) }

func begin(t *testing.T, room, fail int) *Files {
	t.Helper()
	f, e := Begin(room, fail)
	if f == nil || e != api.OK {
		t.Fatalf("Begin(%d, %d) told %v %d", room, fail, f, e)
	}
	return f
}

// atRoot is a user at the root, with a mask.
func atRoot(mask int) Who { return Who{At: disk.Root, Mask: mask} }

func wantErrno(t *testing.T, what string, got, want api.Errno) {
	t.Helper()
	if got != want {
		t.Errorf("%s told %d, want %d", what, got, want)
	}
}

func ok(t *testing.T, what string, e api.Errno) {
	t.Helper()
	if e != api.OK {
		t.Fatalf("%s told %d", what, e)
	}
}

// write makes a file, or writes one over.
func write(t *testing.T, f *Files, s, data string, m int) int {
	t.Helper()
	id, e := f.Open(atRoot(0), s, Write|Create|Empty, 0o600)
	ok(t, "Open of "+s, e)
	ok(t, "Write of "+s, f.Write(id, 0, data))
	ok(t, "Close of "+s, f.Close(id))
	ok(t, "Chmod of "+s, f.Chmod(atRoot(0), s, m))
	return id
}

func folder(t *testing.T, f *Files, s string, m int) int {
	t.Helper()
	ok(t, "Mkdir of "+s, f.Mkdir(atRoot(0), s, m))
	return node(t, f, s)
}

func link(t *testing.T, f *Files, target, s string) int {
	t.Helper()
	ok(t, "Symlink of "+s, f.Symlink(atRoot(0), target, s))
	return node(t, f, s)
}

func node(t *testing.T, f *Files, s string) int {
	t.Helper()
	id, _, e := f.Stat(atRoot(0), s, false)
	ok(t, "Stat of "+s, e)
	return id
}

func wantInfo(t *testing.T, f *Files, s string, want disk.Info) {
	t.Helper()
	id, info, e := f.Stat(atRoot(0), s, false)
	if info != want || e != api.OK {
		t.Errorf("Stat of %.40q told %+v %d, want %+v", s, info, e, want)
	}
	if there, _ := f.Disk().Info(id); there != want {
		t.Errorf("Stat of %.40q told the node %d, of which the disk tells %+v", s, id, there)
	}
}

func wantNone(t *testing.T, f *Files, s string) {
	t.Helper()
	if id, info, e := f.Stat(atRoot(0), s, false); id != 0 || info != (disk.Info{}) || e != api.ErrNone {
		t.Errorf("Stat of %.40q, that isn't there, told %d %+v %d", s, id, info, e)
	}
}

func wantData(t *testing.T, f *Files, s, want string) {
	t.Helper()
	id, _, e := f.Stat(atRoot(0), s, false)
	ok(t, "Stat of "+s, e)
	if got, e := f.Disk().Data(id); got != want || e != api.OK {
		t.Errorf("%s has %.40q %d, want %.40q", s, got, e, want)
	}
}

func wantTaken(t *testing.T, f *Files, used, count int) {
	t.Helper()
	if d := f.Disk(); d.Used() != used || d.Count() != count {
		t.Errorf("%d bytes are taken by %d nodes, want %d by %d", d.Used(), d.Count(), used, count)
	}
}

// told is all that a disk tells of itself.
type told struct {
	used, count int
	infos       []disk.Info
	data        []string
	lists       [][]dir.Entry
}

func tell(d *disk.Disk, last int) told {
	x := told{used: d.Used(), count: d.Count()}
	for id := range last + 2 {
		info, _ := d.Info(id)
		data, _ := d.Data(id)
		list, _ := d.List(id)
		x.infos, x.data, x.lists = append(x.infos, info), append(x.data, data), append(x.lists, list)
	}
	return x
}

func (x told) same(y told) bool {
	return x.used == y.used && x.count == y.count && slices.Equal(x.infos, y.infos) && slices.Equal(x.data, y.data) && slices.EqualFunc(x.lists, y.lists, slices.Equal[[]dir.Entry])
}

// row is a call that is refused, or changes nothing.
type row struct {
	what string
	call func() api.Errno
	want api.Errno
}

// change: each row is a call that changes something, is counted, and is refused without a trace.
func change(t *testing.T, f *Files, rows []row) {
	t.Helper()
	check(t, f, rows, 1)
}

// ask: each row is a call that isn't counted.
func ask(t *testing.T, f *Files, rows []row) {
	t.Helper()
	check(t, f, rows, 0)
}

func check(t *testing.T, f *Files, rows []row, counted int) {
	t.Helper()
	for i, x := range rows {
		before, calls := tell(f.Disk(), 60), f.Calls()
		if e := x.call(); e != x.want {
			t.Errorf("row %d: %.60s told %d, want %d", i, x.what, e, x.want)
		}
		if !before.same(tell(f.Disk(), 60)) {
			t.Fatalf("row %d: %.60s has changed something", i, x.what)
		}
		if f.Calls() != calls+counted {
			t.Errorf("row %d: %.60s was counted as %d calls, want %d", i, x.what, f.Calls()-calls, counted)
		}
	}
}

func mkdir(f *Files, s string, want api.Errno) row {
	return row{"Mkdir " + s, func() api.Errno { return f.Mkdir(atRoot(0), s, 0o777) }, want}
}

func symlink(f *Files, target, s string, want api.Errno) row {
	return row{"Symlink " + s, func() api.Errno { return f.Symlink(atRoot(0), target, s) }, want}
}

func hard(f *Files, old, s string, want api.Errno) row {
	return row{"Link " + old + " " + s, func() api.Errno { return f.Link(atRoot(0), old, s) }, want}
}

func rmdir(f *Files, s string, want api.Errno) row {
	return row{"Rmdir " + s, func() api.Errno { return f.Rmdir(atRoot(0), s) }, want}
}

func unlink(f *Files, s string, want api.Errno) row {
	return row{"Unlink " + s, func() api.Errno { return f.Unlink(atRoot(0), s) }, want}
}

func rename(f *Files, a, b string, want api.Errno) row {
	return row{"Rename " + a + " " + b, func() api.Errno { return f.Rename(atRoot(0), a, b) }, want}
}

func chmod(f *Files, s string, want api.Errno) row {
	return row{"Chmod " + s, func() api.Errno { return f.Chmod(atRoot(0), s, 0o1) }, want}
}

// open: beside an error there is no node.
func open(f *Files, s string, flags int, want api.Errno) row {
	return row{fmt.Sprint("Open ", s, " ", flags), func() api.Errno {
		id, e := f.Open(atRoot(0), s, flags, 0o666)
		if id != 0 {
			return api.Errno(-1)
		}
		return e
	}, want}
}

// aTree is a disk with something of each kind:
//
//	d/ with x (abc), e/ (empty), and up, a link to ..
//	y (yy), and z, the same file; a link l to d/x, ld to d, lost to new, loop to itself
//	shut/ (0500) with s and t/, dark/ (0600) with s, blind/ (0300) with s
//	none (0000), reads (0400), writes (0200)
func aTree(t *testing.T) *Files {
	t.Helper()
	f := begin(t, 1<<20, -1)
	folder(t, f, "d", 0o755)
	folder(t, f, "d/e", 0o755)
	link(t, f, "..", "d/up")
	write(t, f, "d/x", "abc", 0o644)
	write(t, f, "y", "yy", 0o644)
	ok(t, "Link", f.Link(atRoot(0), "y", "z"))
	for _, x := range [][2]string{{"d/x", "l"}, {"d", "ld"}, {"new", "lost"}, {"loop", "loop"}} {
		link(t, f, x[0], x[1])
	}
	folder(t, f, "shut", 0o755)
	folder(t, f, "shut/t", 0o755)
	folder(t, f, "dark", 0o755)
	folder(t, f, "blind", 0o755)
	for _, s := range []string{"shut", "dark", "blind"} {
		write(t, f, s+"/s", "s", 0o644)
	}
	write(t, f, "none", "n", 0)
	write(t, f, "reads", "r", 0o477)
	write(t, f, "writes", "w", 0o277)
	for _, x := range []struct {
		s string
		m int
	}{{"shut", 0o577}, {"dark", 0o677}, {"blind", 0o377}} {
		ok(t, "Chmod", f.Chmod(atRoot(0), x.s, x.m))
	}
	return f
}

// The chapter's example.
func TestExample(t *testing.T) {
	f := begin(t, 100, -1)
	w := atRoot(0o022)
	wantErrno(t, "Mkdir", f.Mkdir(w, "d", 0o777), api.OK)
	id, e := f.Open(w, "d/x", Write|Create, 0o666)
	if id != node(t, f, "d/x") || e != api.OK {
		t.Errorf("Open told %d %d", id, e)
	}
	wantInfo(t, f, "d", disk.Info{Kind: disk.Folder, Mode: 0o755, Links: 1, Size: 1})
	wantInfo(t, f, "d/x", disk.Info{Kind: disk.File, Mode: 0o644, Links: 1, Holds: 1})
}

// P6.1

func TestWhatIsNumbered(t *testing.T) {
	if Read != 1 || Write != 2 || Create != 4 || Empty != 8 || New != 16 {
		t.Error(Read, Write, Create, Empty, New)
	}
	if MayRead != 0400 || MayWrite != 0200 || MayGo != 0100 {
		t.Error(MayRead, MayWrite, MayGo)
	}
	if (Who{1, 2}) != (Who{At: 1, Mask: 2}) {
		t.Error("the fields of Who stand in another order")
	}
}

func TestBegin(t *testing.T) {
	for _, room := range []int{-1, math.MinInt} {
		if f, e := Begin(room, 0); f != nil || e != api.ErrRange {
			t.Errorf("Begin(%d, 0) told %v %d", room, f, e)
		}
	}
	for _, room := range []int{0, 1, math.MaxInt} {
		f := begin(t, room, 0)
		wantTaken(t, f, 0, 1)
		if f.Disk().Room() != room || f.Calls() != 0 || f.Disk() != f.Disk() {
			t.Errorf("Begin(%d, 0) has the room %d, and %d calls", room, f.Disk().Room(), f.Calls())
		}
		wantInfo(t, f, "/", disk.Info{Kind: disk.Folder, Mode: 0o755, Links: 1})
	}
}

func TestDisksAreApart(t *testing.T) {
	f, g := begin(t, 100, -1), begin(t, 100, -1)
	folder(t, f, "d", 0o755)
	wantTaken(t, g, 0, 1)
	if f.Calls() != 1 || g.Calls() != 0 {
		t.Error(f.Calls(), g.Calls())
	}
}

// changing are all kinds of calls that change something, none of which is refused in a tree, if it is the first one.
func changing(f *Files, id int) []row {
	w := atRoot(0)
	opens := func(s string, flags int) func() api.Errno {
		return func() api.Errno {
			_, e := f.Open(w, s, flags, 0o644)
			return e
		}
	}
	return []row{
		{"Mkdir", func() api.Errno { return f.Mkdir(w, "q", 0o755) }, api.OK},
		{"Symlink", func() api.Errno { return f.Symlink(w, "t", "q") }, api.OK},
		{"Link", func() api.Errno { return f.Link(w, "y", "q") }, api.OK},
		{"Rmdir", func() api.Errno { return f.Rmdir(w, "d/e") }, api.OK},
		{"Unlink", func() api.Errno { return f.Unlink(w, "z") }, api.OK},
		{"Rename", func() api.Errno { return f.Rename(w, "z", "q") }, api.OK},
		{"Chmod", func() api.Errno { return f.Chmod(w, "y", 0o600) }, api.OK},
		{"Write", func() api.Errno { return f.Write(id, 0, "b") }, api.OK},
		{"Open with Create", opens("q", Create), api.OK},
		{"Open with Read, Create", opens("y", Read|Create), api.OK},
		{"Open with Empty", opens("y", Empty), api.OK},
		{"Open with Write, Empty", opens("y", Write|Empty), api.OK},
		{"Open with all", opens("q", Read|Write|Create|Empty|New), api.OK},
	}
}

// wrong are the same, and each of them is refused, or has nothing to do.
func wrong(f *Files) []row {
	return []row{
		mkdir(f, "", api.ErrNone), mkdir(f, "d", api.ErrExist), symlink(f, "", "", api.ErrNone), hard(f, "no", "q", api.ErrNone), hard(f, "d", "q", api.ErrLinks),
		rmdir(f, "/", api.ErrBusy), rmdir(f, "d", api.ErrNotEmpty), unlink(f, "d", api.ErrIsDir), rename(f, "no", "q", api.ErrNone), rename(f, "y", "d", api.ErrIsDir), chmod(f, "no", api.ErrNone),
		open(f, "no/q", Create, api.ErrNone), open(f, "no", Empty, api.ErrNone), open(f, "d", Empty|Write, api.ErrIsDir), open(f, "y", Create|New, api.ErrExist),
		{"Write of no node", func() api.Errno { return f.Write(99, 0, "a") }, api.ErrNone},
		{"Write of a directory", func() api.Errno { return f.Write(disk.Root, 0, "a") }, api.ErrIsDir},
		{"Write of nothing", func() api.Errno { return f.Write(nodeOrNone(f, "y"), 0, "") }, api.OK},
	}
}

func nodeOrNone(f *Files, s string) int {
	id, _, _ := f.Stat(atRoot(0), s, false)
	return id
}

func TestCallsAreCounted(t *testing.T) {
	for i := range changing(nil, 0) {
		f := aTree(t)
		calls := f.Calls()
		x := changing(f, node(t, f, "y"))[i]
		before := tell(f.Disk(), 60)
		wantErrno(t, x.what, x.call(), x.want)
		if f.Calls() != calls+1 {
			t.Errorf("%s was counted as %d calls", x.what, f.Calls()-calls)
		}
		if before.same(tell(f.Disk(), 60)) {
			t.Errorf("%s has changed nothing", x.what)
		}
	}
	f := aTree(t)
	change(t, f, wrong(f))
}

func TestOtherCallsAreNotCounted(t *testing.T) {
	f := aTree(t)
	w := atRoot(0)
	calls := f.Calls()
	for _, flags := range []int{0, Read, Write, Read | Write, New, Read | New} {
		id, e := f.Open(w, "y", flags, 0)
		ok(t, "Open", e)
		f.Read(id, 0, 1)
		ok(t, "Close", f.Close(id))
	}
	f.Close(99)
	f.Stat(w, "y", true)
	f.Readlink(w, "l")
	f.List(w, "d")
	f.Chdir(w, "d")
	f.Where(w)
	f.Open(w, "no", Read, 0)
	f.Disk()
	f.Calls()
	if f.Calls() != calls {
		t.Errorf("%d calls that change nothing were counted", f.Calls()-calls)
	}
}

// failing is a tree whose next call that changes something fails.
func failing(t *testing.T) *Files {
	t.Helper()
	f := aTree(t)
	f.fail = f.Calls()
	return f
}

func TestTheCallThatFails(t *testing.T) {
	for i := range changing(nil, 0) {
		f := failing(t)
		x := changing(f, node(t, f, "y"))[i]
		change(t, f, []row{{x.what, x.call, api.ErrIO}})
		wantErrno(t, x.what+" again", x.call(), x.want)
	}
	for i := range wrong(aTree(t)) {
		f := failing(t)
		x := wrong(f)[i]
		change(t, f, []row{{x.what, x.call, api.ErrIO}, x})
	}
}

func TestWhichCallFails(t *testing.T) {
	for fail := -2; fail < 6; fail++ {
		f := begin(t, 100, fail)
		for i := range 5 {
			want := api.OK
			if i == fail {
				want = api.ErrIO
			}
			f.Open(atRoot(0), "no", Read, 0)
			wantErrno(t, fmt.Sprint("call ", i, " of which ", fail, " fails"), f.Chmod(atRoot(0), "/", 0o700), want)
			if f.Calls() != i+1 {
				t.Errorf("behind call %d there are %d", i, f.Calls())
			}
		}
	}
	for _, fail := range []int{math.MinInt, math.MaxInt} {
		ok(t, "Mkdir", begin(t, 100, fail).Mkdir(atRoot(0), "d", 0o755))
	}
}

// P6.2

func TestMkdir(t *testing.T) {
	f := begin(t, 1000, -1)
	for i, x := range []struct {
		s          string
		m, mask, w int
	}{
		{"a", 0o777, 0, 0o777}, {"b/", 0o777, 0o022, 0o755}, {"a//c//", 0o7777, 0o777, 0o7000}, {"./a/d", 0o777, 0o7027, 0o750}, {"/a/../e", 0, 0, 0}, {"f ", 0o1755, 0o7000, 0o1755},
	} {
		wantErrno(t, "Mkdir", f.Mkdir(Who{disk.Root, x.mask}, x.s, x.m), api.OK)
		wantInfo(t, f, x.s, disk.Info{Kind: disk.Folder, Mode: x.w, Links: 1})
		if f.Disk().Count() != i+2 {
			t.Errorf("behind Mkdir of %s there are %d nodes", x.s, f.Disk().Count())
		}
	}
	up, e := f.Disk().Up(node(t, f, "a/d"))
	if up != node(t, f, "a") || e != api.OK {
		t.Errorf("Up told %d %d", up, e)
	}
	wantErrno(t, "Mkdir from below", f.Mkdir(Who{At: node(t, f, "a/d")}, "../g", 0o700), api.OK)
	wantInfo(t, f, "a/g", disk.Info{Kind: disk.Folder, Mode: 0o700, Links: 1})
}

func TestMkdirBehindALink(t *testing.T) {
	f := aTree(t)
	ok(t, "Mkdir", f.Mkdir(atRoot(0), "ld/q", 0o755))
	wantInfo(t, f, "d/q", disk.Info{Kind: disk.Folder, Mode: 0o755, Links: 1})
	// The slash leads on to where the link leads, and a directory may come there.
	ok(t, "Mkdir", f.Mkdir(atRoot(0), "lost/", 0o755))
	wantInfo(t, f, "new", disk.Info{Kind: disk.Folder, Mode: 0o755, Links: 1})
}

func TestMkdirIsRefused(t *testing.T) {
	f := aTree(t)
	change(t, f, []row{
		mkdir(f, "", api.ErrNone), mkdir(f, repeat("/", 4096), api.ErrLong), mkdir(f, "q\x00", api.ErrForm), mkdir(f, "no/q", api.ErrNone), mkdir(f, "y/q", api.ErrNotDir), mkdir(f, "dark/q", api.ErrDenied), mkdir(f, repeat("q", 256), api.ErrLong), mkdir(f, "loop/q", api.ErrLoop), mkdir(f, "y/", api.ErrNotDir),
		mkdir(f, "d", api.ErrExist), mkdir(f, "d/", api.ErrExist), mkdir(f, "y", api.ErrExist), mkdir(f, "l", api.ErrExist), mkdir(f, "lost", api.ErrExist), mkdir(f, "loop", api.ErrExist), mkdir(f, ".", api.ErrExist), mkdir(f, "..", api.ErrExist), mkdir(f, "/", api.ErrExist), mkdir(f, "d/e/..", api.ErrExist),
		mkdir(f, "shut/s", api.ErrExist), mkdir(f, "shut/q", api.ErrDenied), mkdir(f, "shut/q/", api.ErrDenied), mkdir(f, "shut/"+repeat("q", 256), api.ErrLong), mkdir(f, "shut/.", api.ErrExist),
		{"Mkdir from nowhere", func() api.Errno { return f.Mkdir(Who{At: 99}, "q", 0o755) }, api.ErrNone},
		{"Mkdir from a file", func() api.Errno { return f.Mkdir(Who{At: node(t, f, "y")}, "q", 0o755) }, api.ErrNotDir},
	})
	ok(t, "Mkdir in what may not be read", f.Mkdir(atRoot(0), "blind/q", 0o755))
}

func TestSymlink(t *testing.T) {
	f := begin(t, 1<<20, -1)
	for i, target := range []string{"x", "/", "no/such//", ".", "-n", " \n\xff", repeat("t", 4095), repeat("n", 256)} {
		s := fmt.Sprint("l", i)
		wantErrno(t, "Symlink", f.Symlink(atRoot(0o777), target, s), api.OK)
		wantInfo(t, f, s, disk.Info{Kind: disk.Symlink, Mode: 0o777, Links: 1, Size: len(target)})
		wantData(t, f, s, target)
	}
}

func TestSymlinkIsRefused(t *testing.T) {
	f := aTree(t)
	long := repeat("t", 4096)
	change(t, f, []row{
		symlink(f, "", "q", api.ErrNone), symlink(f, "", "y", api.ErrNone), symlink(f, "", "shut/q", api.ErrNone),
		symlink(f, long, "q", api.ErrLong), symlink(f, long[1:]+"\x00", "q", api.ErrLong), symlink(f, long, "", api.ErrLong), symlink(f, long, "y", api.ErrLong),
		symlink(f, "\x00", "q", api.ErrForm), symlink(f, "a\x00b", "y", api.ErrForm), symlink(f, "a\x00", "", api.ErrForm), symlink(f, long[2:]+"\x00", repeat("q", 256), api.ErrForm),
		symlink(f, "t", "", api.ErrNone), symlink(f, "t", repeat("q", 256), api.ErrLong), symlink(f, "t", "\x00", api.ErrForm), symlink(f, "t", "no/q", api.ErrNone), symlink(f, "t", "y/", api.ErrNotDir), symlink(f, "t", "dark/q", api.ErrDenied), symlink(f, "t", "loop/", api.ErrLoop),
		symlink(f, "t", "y", api.ErrExist), symlink(f, "t", "lost", api.ErrExist), symlink(f, "t", "d/", api.ErrExist), symlink(f, "t", ".", api.ErrExist), symlink(f, "t", "shut/s", api.ErrExist),
		symlink(f, "t", "q/", api.ErrNone), symlink(f, "t", "lost/", api.ErrNone), symlink(f, "t", "shut/q/", api.ErrNone), symlink(f, "t", "shut/q", api.ErrDenied),
	})
}

func TestLink(t *testing.T) {
	f := aTree(t)
	y := node(t, f, "y")
	ok(t, "Link", f.Link(atRoot(0), "/y", "d/e/q"))
	wantInfo(t, f, "d/e/q", disk.Info{Kind: disk.File, Mode: 0o644, Links: 3, Size: 2})
	if node(t, f, "d/e/q") != y {
		t.Error("another path leads to another node")
	}
	ok(t, "Link of a link", f.Link(atRoot(0), "l", "l2"))
	wantInfo(t, f, "l2", disk.Info{Kind: disk.Symlink, Mode: 0o777, Links: 2, Size: 3})
	ok(t, "Link of a link that leads nowhere", f.Link(atRoot(0), "lost", "lost2"))
	ok(t, "Link of a file behind a link", f.Link(atRoot(0), "ld/x", "x2"))
	wantInfo(t, f, "d/x", disk.Info{Kind: disk.File, Mode: 0o644, Links: 2, Size: 3})
	ok(t, "Link of what nobody may read", f.Link(atRoot(0), "none", "none2"))
	ok(t, "Link of what lies in a shut directory", f.Link(atRoot(0), "shut/s", "s2"))
}

func TestLinkIsRefused(t *testing.T) {
	f := aTree(t)
	change(t, f, []row{
		hard(f, "", "q", api.ErrNone), hard(f, "no", "q", api.ErrNone), hard(f, "no", "", api.ErrNone), hard(f, "no", "y", api.ErrNone), hard(f, repeat("n", 256), "y", api.ErrLong), hard(f, "y\x00", "y", api.ErrForm), hard(f, "y/", "q", api.ErrNotDir), hard(f, "dark/s", "y", api.ErrDenied), hard(f, "l/", "q", api.ErrNotDir), hard(f, "loop/", "q", api.ErrLoop),
		hard(f, "d", "q", api.ErrLinks), hard(f, "/", "q", api.ErrLinks), hard(f, ".", "y", api.ErrLinks), hard(f, "ld/", "q", api.ErrLinks), hard(f, "d", "", api.ErrLinks), hard(f, "d", "shut/q", api.ErrLinks),
		hard(f, "y", "", api.ErrNone), hard(f, "y", repeat("q", 256), api.ErrLong), hard(f, "y", "no/q", api.ErrNone), hard(f, "y", "y/q", api.ErrNotDir),
		hard(f, "y", "y", api.ErrExist), hard(f, "y", "z", api.ErrExist), hard(f, "y", "l", api.ErrExist), hard(f, "y", "d", api.ErrExist), hard(f, "y", "lost", api.ErrExist), hard(f, "y", "shut/s", api.ErrExist),
		hard(f, "y", "q/", api.ErrNone), hard(f, "y", "shut/q/", api.ErrNone), hard(f, "y", "lost/", api.ErrNone), hard(f, "y", "shut/q", api.ErrDenied),
	})
}

func TestNewThingsNeedRoom(t *testing.T) {
	f := begin(t, 10, -1)
	write(t, f, "y", "12345", 0o644)
	change(t, f, []row{
		mkdir(f, "12345", api.ErrSpace), mkdir(f, "12345/", api.ErrSpace), mkdir(f, "y", api.ErrExist),
		symlink(f, "12345", "q", api.ErrSpace), symlink(f, "1234", "q", api.ErrSpace), symlink(f, "1", "1234", api.ErrSpace), symlink(f, "12345", "y", api.ErrExist),
		hard(f, "y", "12345", api.ErrSpace),
		open(f, "12345", Write|Create, api.ErrSpace), open(f, "12345", Create|New, api.ErrSpace),
	})
	wantTaken(t, f, 6, 2)
	ok(t, "Symlink", f.Symlink(atRoot(0), "123", "q"))
	wantTaken(t, f, 10, 3)
	change(t, f, []row{mkdir(f, "r", api.ErrSpace), symlink(f, "a", "r", api.ErrSpace), hard(f, "y", "r", api.ErrSpace), open(f, "r", Create, api.ErrSpace)})
	ok(t, "Unlink", f.Unlink(atRoot(0), "q"))
	ok(t, "Mkdir", f.Mkdir(atRoot(0), "1234", 0o755))
	ok(t, "Rmdir", f.Rmdir(atRoot(0), "1234"))
	ok(t, "Link", f.Link(atRoot(0), "y", "1234"))
	wantTaken(t, f, 10, 2)
}

func TestThereMayBeSoManyNodes(t *testing.T) {
	f := begin(t, 1<<30, -1)
	write(t, f, "y", "", 0o644)
	// Rising names, so that each comes in at the end.
	name := func(i int) string { return fmt.Sprintf("n%05d", i) }
	for i := f.Disk().Count(); i < 1<<16; i++ {
		ok(t, "Mkdir", f.Mkdir(atRoot(0), name(i), 0o755))
	}
	for _, x := range []row{mkdir(f, "q", api.ErrMany), symlink(f, "t", "q", api.ErrMany), open(f, "q", Create, api.ErrMany), mkdir(f, "y", api.ErrExist), hard(f, "y", "q", api.OK)} {
		wantErrno(t, x.what, x.call(), x.want)
	}
	ok(t, "Rmdir", f.Rmdir(atRoot(0), name(1<<16-1)))
	ok(t, "Mkdir", f.Mkdir(atRoot(0), "r", 0o755))
	wantErrno(t, "Mkdir", f.Mkdir(atRoot(0), "s", 0o755), api.ErrMany)
}

func TestANodeMayHaveSoManyLinks(t *testing.T) {
	f := begin(t, 1<<30, -1)
	write(t, f, "a", "", 0o644)
	for i := 1; i < 1<<15; i++ {
		ok(t, "Link", f.Link(atRoot(0), "a", fmt.Sprintf("n%05d", i)))
	}
	for _, x := range []row{hard(f, "a", "q", api.ErrMany), hard(f, "a", "n00001", api.ErrExist), unlink(f, "a", api.OK), hard(f, "n00001", "q", api.OK), hard(f, "q", "r", api.ErrMany)} {
		wantErrno(t, x.what, x.call(), x.want)
	}
}

// P6.3

func TestRmdir(t *testing.T) {
	f := aTree(t)
	ok(t, "Rmdir", f.Rmdir(atRoot(0), "d/e/"))
	wantNone(t, f, "d/e")
	folder(t, f, "q", 0)
	ok(t, "Rmdir of what nobody may do anything with", f.Rmdir(atRoot(0), "/d/../q//"))
	wantNone(t, f, "q")
	folder(t, f, "d/q", 0o755)
	ok(t, "Rmdir behind a link", f.Rmdir(atRoot(0), "ld/q"))
	wantNone(t, f, "d/q")
	// The slash leads on to where the link leads: that is gone, and the link stays.
	folder(t, f, "new", 0o755)
	ok(t, "Rmdir by a link and a slash", f.Rmdir(atRoot(0), "lost/"))
	wantNone(t, f, "new")
	wantInfo(t, f, "lost", disk.Info{Kind: disk.Symlink, Mode: 0o777, Links: 1, Size: 3})
}

func TestRmdirWhereAUserIs(t *testing.T) {
	f := aTree(t)
	w, e := f.Chdir(atRoot(0), "d/e")
	ok(t, "Chdir", e)
	change(t, f, []row{
		{"Rmdir .", func() api.Errno { return f.Rmdir(w, ".") }, api.ErrBusy},
		{"Rmdir ../e/.", func() api.Errno { return f.Rmdir(w, "../e/.") }, api.ErrBusy},
	})
	ok(t, "Rmdir", f.Rmdir(w, "../e"))
	change(t, f, []row{{"Mkdir in what is gone", func() api.Errno { return f.Mkdir(w, "q", 0o755) }, api.ErrNone}})
	if s, e := f.Where(w); s != "" || e != api.ErrNone {
		t.Errorf("Where of a user in what is gone told %q %d", s, e)
	}
	ok(t, "Mkdir from the root", f.Mkdir(w, "/q", 0o755))
}

func TestRmdirIsRefused(t *testing.T) {
	f := aTree(t)
	folder(t, f, "d/e/f", 0o755)
	change(t, f, []row{
		rmdir(f, "", api.ErrNone), rmdir(f, "no", api.ErrNone), rmdir(f, "no/", api.ErrNone), rmdir(f, "y/", api.ErrNotDir), rmdir(f, "dark/s", api.ErrDenied), rmdir(f, repeat("n", 256), api.ErrLong), rmdir(f, "\x00", api.ErrForm), rmdir(f, "lost/", api.ErrNone), rmdir(f, "loop/", api.ErrLoop),
		rmdir(f, "y", api.ErrNotDir), rmdir(f, "l", api.ErrNotDir), rmdir(f, "ld", api.ErrNotDir), rmdir(f, "lost", api.ErrNotDir), rmdir(f, "loop", api.ErrNotDir), rmdir(f, "shut/s", api.ErrNotDir), rmdir(f, "d/up", api.ErrNotDir),
		rmdir(f, "/", api.ErrBusy), rmdir(f, "///", api.ErrBusy), rmdir(f, ".", api.ErrBusy), rmdir(f, "..", api.ErrBusy), rmdir(f, "d/e/f/.", api.ErrBusy), rmdir(f, "d/e/..", api.ErrBusy), rmdir(f, "d/up/", api.ErrBusy), rmdir(f, "shut/t/.", api.ErrBusy), rmdir(f, "shut/t/..", api.ErrBusy),
		rmdir(f, "shut/t", api.ErrDenied), rmdir(f, "d", api.ErrNotEmpty), rmdir(f, "d/e", api.ErrNotEmpty), rmdir(f, "shut", api.ErrNotEmpty), rmdir(f, "ld/", api.ErrNotEmpty),
	})
	ok(t, "Chmod", f.Chmod(atRoot(0), "d", 0o555))
	change(t, f, []row{rmdir(f, "d/e", api.ErrDenied), rmdir(f, "d", api.ErrNotEmpty)})
}

func TestUnlink(t *testing.T) {
	f := aTree(t)
	count := f.Disk().Count()
	ok(t, "Unlink", f.Unlink(atRoot(0), "y"))
	wantNone(t, f, "y")
	wantInfo(t, f, "z", disk.Info{Kind: disk.File, Mode: 0o644, Links: 1, Size: 2})
	for _, s := range []string{"z", "l", "lost", "loop", "d/up", "ld/x", "none", "blind/s"} {
		ok(t, "Unlink of "+s, f.Unlink(atRoot(0), s))
		wantNone(t, f, s)
		if count--; f.Disk().Count() != count {
			t.Errorf("behind Unlink of %s there are %d nodes, want %d", s, f.Disk().Count(), count)
		}
	}
	ok(t, "Unlink of a link to a directory", f.Unlink(atRoot(0), "ld"))
	wantInfo(t, f, "d", disk.Info{Kind: disk.Folder, Mode: 0o755, Links: 1, Size: 1})
}

func TestUnlinkOfWhatIsOpen(t *testing.T) {
	f := begin(t, 100, -1)
	write(t, f, "x", "abc", 0o644)
	id, e := f.Open(atRoot(0), "x", Read|Write, 0)
	ok(t, "Open", e)
	ok(t, "Unlink", f.Unlink(atRoot(0), "x"))
	wantTaken(t, f, 3, 2)
	ok(t, "Write", f.Write(id, 3, "d"))
	if s, e := f.Read(id, 0, 9); s != "abcd" || e != api.OK {
		t.Errorf("Read told %q %d", s, e)
	}
	ok(t, "Close", f.Close(id))
	wantTaken(t, f, 0, 1)
	wantErrno(t, "Close of what is gone", f.Close(id), api.ErrNone)
}

func TestUnlinkIsRefused(t *testing.T) {
	f := aTree(t)
	change(t, f, []row{
		unlink(f, "", api.ErrNone), unlink(f, "no", api.ErrNone), unlink(f, "y/", api.ErrNotDir), unlink(f, "l/", api.ErrNotDir), unlink(f, "y/.", api.ErrNotDir), unlink(f, "lost/", api.ErrNone), unlink(f, "dark/s", api.ErrDenied), unlink(f, repeat("n", 256), api.ErrLong), unlink(f, "\x00", api.ErrForm), unlink(f, "loop/", api.ErrLoop),
		unlink(f, "d", api.ErrIsDir), unlink(f, "d/", api.ErrIsDir), unlink(f, "ld/", api.ErrIsDir), unlink(f, "/", api.ErrIsDir), unlink(f, ".", api.ErrIsDir), unlink(f, "d/..", api.ErrIsDir), unlink(f, "shut/t", api.ErrIsDir), unlink(f, "d/e", api.ErrIsDir),
		unlink(f, "shut/s", api.ErrDenied), unlink(f, "shut/q", api.ErrNone),
	})
}

func TestRename(t *testing.T) {
	f := aTree(t)
	x, d, y := node(t, f, "d/x"), node(t, f, "d"), node(t, f, "y")
	l, e := node(t, f, "l"), node(t, f, "d/e")
	for i, r := range []struct {
		a, b, now string
		node      int
	}{
		{"d/x", "q", "q", x}, {"q", "/d/../d/x", "d/x", x}, {"l", "d/l", "d/l", l}, {"d/l", "l", "l", l},
		{"d/e", "r/", "r", e}, {"r/", "d/e//", "d/e", e}, {"d", "D", "D", d}, {"D", "d", "d", d},
		{"y", "d/x", "d/x", y}, {"d/x", "lost", "lost", y}, {"lost", "l", "l", y}, {"z", "z2", "z2", y},
		{"ld/e", "e", "e", e}, {"ld/", "e", "e", d},
	} {
		wantErrno(t, fmt.Sprintf("row %d: Rename of %s to %s", i, r.a, r.b), f.Rename(atRoot(0), r.a, r.b), api.OK)
		if got := node(t, f, r.now); got != r.node {
			t.Errorf("row %d: %s is the node %d, want %d", i, r.now, got, r.node)
		}
		if !strings.HasPrefix(r.a, "ld/") {
			wantNone(t, f, strings.TrimRight(r.a, "/"))
		}
	}
	wantNone(t, f, "d")
	wantInfo(t, f, "ld", disk.Info{Kind: disk.Symlink, Mode: 0o777, Links: 1, Size: 1})
	if _, e := f.Disk().Info(x); e != api.ErrNone {
		t.Error("what another one took the place of is still there")
	}
}

func TestRenameThatDoesNothing(t *testing.T) {
	f := aTree(t)
	change(t, f, []row{rename(f, "y", "y", api.OK), rename(f, "y", "z", api.OK), rename(f, "d", "d/", api.OK), rename(f, "d/e", "ld/e", api.OK), rename(f, "l", "./l", api.OK), rename(f, "d/x", "ld/x", api.OK)})
}

func TestRenameIsRefused(t *testing.T) {
	f := aTree(t)
	folder(t, f, "full", 0o755)
	write(t, f, "full/f", "", 0o644)
	change(t, f, []row{
		rename(f, "", "q", api.ErrNone), rename(f, "no", "q", api.ErrNone), rename(f, "no", "", api.ErrNone), rename(f, "no", repeat("n", 256), api.ErrNone), rename(f, repeat("n", 256), "\x00", api.ErrLong), rename(f, "y/", "q", api.ErrNotDir), rename(f, "dark/s", ".", api.ErrDenied), rename(f, "lost/", "q", api.ErrNone), rename(f, "\x00", ".", api.ErrForm),
		rename(f, "y", "", api.ErrNone), rename(f, "y", repeat("n", 256), api.ErrLong), rename(f, "y", "q\x00", api.ErrForm), rename(f, "y", "no/q", api.ErrNone), rename(f, "y", "z/", api.ErrNotDir), rename(f, "y", "z/q", api.ErrNotDir), rename(f, "y", "dark/q", api.ErrDenied), rename(f, ".", "no/q", api.ErrNone), rename(f, "/", "loop/", api.ErrLoop), rename(f, "shut/s", "y/", api.ErrNotDir),
		rename(f, "/", "q", api.ErrBusy), rename(f, ".", "q", api.ErrBusy), rename(f, "..", "y", api.ErrBusy), rename(f, "d/.", "q", api.ErrBusy), rename(f, "d/e/..", "q", api.ErrBusy), rename(f, "y", ".", api.ErrBusy), rename(f, "y", "/", api.ErrBusy), rename(f, "y", "d/..", api.ErrBusy), rename(f, "d", "d/.", api.ErrBusy), rename(f, "shut/s", "shut/.", api.ErrBusy), rename(f, "d/up/", "q", api.ErrBusy), rename(f, "shut/s", "shut/t/..", api.ErrBusy),
		rename(f, "y", "q/", api.ErrNotDir), rename(f, "l", "q/", api.ErrNotDir), rename(f, "ld", "q/", api.ErrNotDir), rename(f, "y", "lost/", api.ErrNotDir), rename(f, "y", "shut/q/", api.ErrNotDir), rename(f, "shut/s", "q/", api.ErrNotDir),
		rename(f, "shut/s", "q", api.ErrDenied), rename(f, "y", "shut/q", api.ErrDenied), rename(f, "y", "shut/s", api.ErrDenied), rename(f, "shut/s", "shut/s", api.ErrDenied), rename(f, "shut/s", "shut/q", api.ErrDenied), rename(f, "shut/t", "y", api.ErrDenied), rename(f, "d", "shut/q/", api.ErrDenied), rename(f, "y", "shut/t", api.ErrDenied),
		rename(f, "d", "d/q", api.ErrBusy), rename(f, "d", "d/e/q", api.ErrBusy), rename(f, "d", "d/e", api.ErrBusy), rename(f, "d", "d/x", api.ErrBusy), rename(f, "d", "ld/q", api.ErrBusy), rename(f, "d", "d/q/", api.ErrBusy),
		rename(f, "d", "y", api.ErrNotDir), rename(f, "d", "l", api.ErrNotDir), rename(f, "d", "ld", api.ErrNotDir), rename(f, "y", "d", api.ErrIsDir), rename(f, "l", "d/", api.ErrIsDir), rename(f, "y", "d/e", api.ErrIsDir), rename(f, "y", "full", api.ErrIsDir),
		rename(f, "d", "full", api.ErrNotEmpty), rename(f, "d/e", "full", api.ErrNotEmpty), rename(f, "d/e", "d", api.ErrNotEmpty),
	})
}

func TestRenameNeedsRoom(t *testing.T) {
	f := begin(t, 8, -1)
	write(t, f, "ab", "12", 0o644)
	folder(t, f, "d", 0o755)
	change(t, f, []row{rename(f, "ab", "123456", api.ErrSpace), rename(f, "d", "d2345", api.ErrSpace), rename(f, "ab", "d/12345678", api.ErrSpace)})
	ok(t, "Rename", f.Rename(atRoot(0), "ab", "12345"))
	wantTaken(t, f, 8, 3)
	ok(t, "Rename", f.Rename(atRoot(0), "12345", "d/b"))
	wantTaken(t, f, 4, 3)
}

func TestChmod(t *testing.T) {
	f := aTree(t)
	for _, x := range []struct {
		s, now string
		m      int
	}{
		{"y", "z", 0}, {"none", "none", 0o7777}, {"l", "d/x", 0o123}, {"shut/s", "shut/s", 0o700}, {"shut/", "shut", 0o100}, {"dark/", "dark", 0o600}, {"ld/e/.", "d/e", 0o4444},
	} {
		ok(t, "Chmod of "+x.s, f.Chmod(atRoot(0o777), x.s, x.m))
		if _, info, e := f.Stat(atRoot(0), x.now, false); info.Mode != x.m || e != api.OK {
			t.Errorf("behind Chmod of %s %s has the mode %o %d", x.s, x.now, info.Mode, e)
		}
	}
	if _, info, _ := f.Stat(atRoot(0), "l", false); info.Mode != 0o777 {
		t.Errorf("a link has the mode %o", info.Mode)
	}
	ok(t, "Chmod of the root", f.Chmod(atRoot(0), "/", 0o755))
	ok(t, "Chmod of the root", f.Chmod(atRoot(0), "d/..", 0o600))
	change(t, f, []row{chmod(f, "/", api.ErrDenied), chmod(f, ".", api.ErrDenied)})
}

func TestChmodIsRefused(t *testing.T) {
	f := aTree(t)
	change(t, f, []row{
		chmod(f, "", api.ErrNone), chmod(f, "no", api.ErrNone), chmod(f, "lost", api.ErrNone), chmod(f, "loop", api.ErrLoop), chmod(f, "y/", api.ErrNotDir), chmod(f, "l/", api.ErrNotDir), chmod(f, "dark/s", api.ErrDenied), chmod(f, "dark/.", api.ErrDenied), chmod(f, repeat("n", 256), api.ErrLong), chmod(f, "\x00", api.ErrForm), chmod(f, "no/q", api.ErrNone),
	})
}

// P6.4

func TestOpenMakesFiles(t *testing.T) {
	f := aTree(t)
	for i, x := range []struct {
		s, now     string
		flags      int
		m, mask, w int
	}{
		{"a", "a", Create, 0o666, 0o022, 0o644}, {"d/b", "d/b", Write | Create, 0o7777, 0, 0o7777}, {"ld/c", "d/c", Create | Empty | Write, 0o777, 0o7777, 0}, {"/d/../e", "e", Create | New, 0, 0, 0},
		{"lost", "new", Read | Create, 0o666, 0o600, 0o066}, {"d/up/g", "g", Create | New | Read | Write | Empty, 0o4600, 0, 0o4600}, {"blind/h", "blind/h", Write | Create, 0o400, 0, 0o400},
	} {
		count := f.Disk().Count()
		id, e := f.Open(atRoot(x.mask), x.s, x.flags, x.m)
		if e != api.OK || id != node(t, f, x.now) || f.Disk().Count() != count+1 {
			t.Errorf("row %d: Open of %s told %d %d", i, x.s, id, e)
		}
		wantInfo(t, f, x.now, disk.Info{Kind: disk.File, Mode: x.w, Links: 1, Holds: 1})
		ok(t, "Write", f.Write(id, 0, "a"))
		ok(t, "Close", f.Close(id))
		wantErrno(t, "Close again", f.Close(id), api.ErrNone)
		wantInfo(t, f, x.now, disk.Info{Kind: disk.File, Mode: x.w, Links: 1, Size: 1})
	}
	wantInfo(t, f, "lost", disk.Info{Kind: disk.Symlink, Mode: 0o777, Links: 1, Size: 3})
}

// A link's target ends with a slash, not the path that is opened.
func TestOpenBehindASlash(t *testing.T) {
	f := begin(t, 100, -1)
	link(t, f, "new/", "l")
	id, e := f.Open(atRoot(0), "l", Create, 0o644)
	if e != api.OK || id != node(t, f, "new") {
		t.Errorf("Open told %d %d", id, e)
	}
}

func TestOpenOfWhatIsThere(t *testing.T) {
	for i, x := range []struct {
		s, now string
		flags  int
		empty  bool
	}{
		{"y", "z", Read, false}, {"y", "y", Write, false}, {"y", "y", 0, false}, {"y", "y", Read | Write | Create, false}, {"y", "y", New, false}, {"y", "y", New | Read, false}, {"l", "d/x", New | Write, false},
		{"y", "z", Write | Empty, true}, {"y", "y", Empty, true}, {"l", "d/x", Write | Create | Empty, true}, {"y", "y", Empty | New, true},
		{"shut/s", "shut/s", Write | Create, false}, {"shut/s", "shut/s", Empty, true}, {"blind/s", "blind/s", Read, false},
		{"none", "none", 0, false}, {"none", "none", Create, false}, {"none", "none", New, false}, {"reads", "reads", Read | Create, false}, {"writes", "writes", Write, false}, {"writes", "writes", Write | Create | Empty, true},
	} {
		f := aTree(t)
		_, want, _ := f.Stat(atRoot(0), x.now, false)
		want.Holds = 1
		if x.empty {
			want.Size = 0
		}
		id, e := f.Open(atRoot(0o777), x.s, x.flags, 0o1234)
		if e != api.OK || id != node(t, f, x.now) {
			t.Errorf("row %d: Open of %s told %d %d", i, x.s, id, e)
		}
		wantInfo(t, f, x.now, want)
		again, _ := f.Open(atRoot(0), x.s, 0, 0)
		want.Holds = 2
		if again != id {
			t.Errorf("row %d: opened again, %s is the node %d, not %d", i, x.s, again, id)
		}
		wantInfo(t, f, x.now, want)
	}
}

func TestOpenIsRefused(t *testing.T) {
	f := aTree(t)
	ask(t, f, []row{
		open(f, "", Read, api.ErrNone), open(f, repeat("n", 256), Read, api.ErrLong), open(f, "\x00", Write, api.ErrForm), open(f, "loop", Read, api.ErrLoop), open(f, "loop", Read|New, api.ErrLoop), open(f, "y/", Read, api.ErrNotDir), open(f, "y/q", Read, api.ErrNotDir), open(f, "dark/s", Read, api.ErrDenied), open(f, "no/q", Read, api.ErrNone),
		open(f, "no", Read, api.ErrNone), open(f, "no/", Read, api.ErrNone), open(f, "lost", Write, api.ErrNone), open(f, "shut/q", Read|Write|New, api.ErrNone), open(f, "no", 0, api.ErrNone),
		open(f, "d", Read, api.ErrIsDir), open(f, "d/", 0, api.ErrIsDir), open(f, "/", Read, api.ErrIsDir), open(f, "ld", Write, api.ErrIsDir), open(f, ".", Read|New, api.ErrIsDir), open(f, "dark", Read|Write, api.ErrIsDir), open(f, "shut", Write, api.ErrIsDir),
		open(f, "none", Read, api.ErrDenied), open(f, "none", Write, api.ErrDenied), open(f, "reads", Write, api.ErrDenied), open(f, "reads", Read|Write, api.ErrDenied), open(f, "writes", Read, api.ErrDenied), open(f, "writes", Read|Write|New, api.ErrDenied),
	})
	change(t, f, []row{
		open(f, "", Create, api.ErrNone), open(f, repeat("n", 256), Create, api.ErrLong), open(f, "\x00", Create|New, api.ErrForm), open(f, "loop", Create, api.ErrLoop), open(f, "loop/", Create|New, api.ErrLoop), open(f, "y/", Create, api.ErrNotDir), open(f, "y/q", Create, api.ErrNotDir), open(f, "dark/s", Create|New, api.ErrDenied), open(f, "no/q", Create, api.ErrNone),
		open(f, "no", Empty, api.ErrNone), open(f, "no/", Write|Empty, api.ErrNone), open(f, "lost", Write|Empty|New, api.ErrNone), open(f, "shut/q", Empty, api.ErrNone),
		open(f, "no/", Create, api.ErrIsDir), open(f, "no/", Create|New, api.ErrIsDir), open(f, "lost/", Create, api.ErrIsDir), open(f, "shut/q/", Create|Write, api.ErrIsDir), open(f, "lost/", Create|New, api.ErrIsDir),
		open(f, "shut/q", Create, api.ErrDenied), open(f, "shut/q", Create|New|Write|Empty, api.ErrDenied),
		open(f, "y", Create|New, api.ErrExist), open(f, "d", Create|New, api.ErrExist), open(f, "d/", Create|New, api.ErrExist), open(f, "/", Create|New, api.ErrExist), open(f, "l", Create|New|Empty, api.ErrExist), open(f, "lost", Create|New, api.ErrExist), open(f, "loop", Create|New, api.ErrExist), open(f, "none", Create|New|Read|Write, api.ErrExist), open(f, "ld/", Create|New, api.ErrExist),
		open(f, "d", Create, api.ErrIsDir), open(f, "d", Empty, api.ErrIsDir), open(f, "ld", Create|Write, api.ErrIsDir), open(f, "blind/..", Empty|New, api.ErrIsDir),
		open(f, "none", Empty, api.ErrDenied), open(f, "reads", Empty, api.ErrDenied), open(f, "reads", Read|Empty, api.ErrDenied), open(f, "reads", Create|Write, api.ErrDenied), open(f, "writes", Read|Empty, api.ErrDenied), open(f, "writes", Create|Read|Empty|Write, api.ErrDenied), open(f, "none", Empty|New, api.ErrDenied),
	})
}

// A link that leads nowhere at all is the one kind that a path stops at though it is followed; no call of a user makes one.
func TestOpenOfALinkWithoutATarget(t *testing.T) {
	f := aTree(t)
	id, e := f.disk.Make(disk.Symlink, 0, "")
	ok(t, "Make", e)
	ok(t, "Enter", f.disk.Enter(disk.Root, "bare", id))
	ask(t, f, []row{open(f, "bare", Read|Write, api.ErrLoop), open(f, "bare", 0, api.ErrLoop)})
	change(t, f, []row{open(f, "bare", Create|Empty, api.ErrLoop), open(f, "bare", Create|New, api.ErrExist), open(f, "bare/", Create, api.ErrNotDir)})
}

func TestCloseReadWrite(t *testing.T) {
	f := begin(t, 20, -1)
	id, e := f.Open(atRoot(0), "x", Create|Write, 0)
	ok(t, "Open", e)
	ok(t, "Write", f.Write(id, 2, "abc"))
	wantData(t, f, "x", "\x00\x00abc")
	for i, x := range []struct {
		id, at, most int
		s            string
		e            api.Errno
	}{
		{id, 0, 9, "\x00\x00abc", api.OK}, {id, 3, 1, "b", api.OK}, {id, 5, 9, "", api.OK}, {id, math.MaxInt, math.MaxInt, "", api.OK}, {id, 0, 0, "", api.OK}, {id, -1, 1, "", api.ErrRange}, {id, 0, -1, "", api.ErrRange}, {id, math.MinInt, math.MinInt, "", api.ErrRange},
		{99, -1, 0, "", api.ErrNone}, {0, 0, 0, "", api.ErrNone}, {-1, 0, 0, "", api.ErrNone}, {disk.Root, -1, 0, "", api.ErrIsDir},
	} {
		if s, e := f.Read(x.id, x.at, x.most); s != x.s || e != x.e {
			t.Errorf("row %d: Read told %q %d", i, s, e)
		}
	}
	l := link(t, f, "x", "l")
	writes := func(id, at int, s string, want api.Errno) row {
		return row{fmt.Sprint("Write ", id, at), func() api.Errno { return f.Write(id, at, s) }, want}
	}
	change(t, f, []row{
		writes(99, 0, "a", api.ErrNone), writes(disk.Root, -1, "", api.ErrIsDir), writes(l, -1, "a", api.ErrKind), writes(id, -1, "", api.ErrRange), writes(id, 1<<23, "", api.OK), writes(id, 1<<22, "a", api.ErrLong), writes(id, math.MaxInt, "a", api.ErrLong), writes(id, 0, repeat("a", 19), api.ErrSpace),
	})
	ask(t, f, []row{
		{"Close of nothing", func() api.Errno { return f.Close(99) }, api.ErrNone}, {"Close of what isn't held", func() api.Errno { return f.Close(l) }, api.ErrNone}, {"Close of the root", func() api.Errno { return f.Close(disk.Root) }, api.ErrNone},
	})
	ok(t, "Close", f.Close(id))
	wantInfo(t, f, "x", disk.Info{Kind: disk.File, Links: 1, Size: 5})
	ok(t, "Write of what isn't open", f.Write(id, 0, "z"))
}

// P6.5

func TestStat(t *testing.T) {
	f := aTree(t)
	wantInfo(t, f, "y", disk.Info{Kind: disk.File, Mode: 0o644, Links: 2, Size: 2})
	for i, x := range []struct {
		s      string
		follow bool
		now    string
	}{{"l", true, "d/x"}, {"l", false, "l"}, {"ld/", false, "d"}, {"ld", true, "d"}, {"d/up/y", false, "y"}, {"lost", false, "lost"}, {"none", true, "none"}, {"dark", true, "dark"}, {"d/.", true, "d"}} {
		id, info, e := f.Stat(atRoot(0), x.s, x.follow)
		want, we := f.Disk().Info(node(t, f, x.now))
		if id != node(t, f, x.now) || info != want || e != api.OK || we != api.OK {
			t.Errorf("row %d: Stat of %s told %d %+v %d, want %+v", i, x.s, id, info, e, want)
		}
	}
	if id, info, e := f.Stat(Who{At: node(t, f, "d")}, "../y", true); id != node(t, f, "y") || info.Size != 2 || e != api.OK {
		t.Errorf("Stat from below told %d %+v %d", id, info, e)
	}
	stat := func(at int, s string, follow bool, want api.Errno) row {
		return row{"Stat " + s, func() api.Errno {
			id, info, e := f.Stat(Who{At: at}, s, follow)
			if id != 0 || info != (disk.Info{}) {
				return api.Errno(-1)
			}
			return e
		}, want}
	}
	ask(t, f, []row{
		stat(1, "", true, api.ErrNone), stat(1, "no", false, api.ErrNone), stat(1, "no/", true, api.ErrNone), stat(1, "lost", true, api.ErrNone), stat(1, "loop", true, api.ErrLoop), stat(1, "dark/s", true, api.ErrDenied), stat(1, "y/", false, api.ErrNotDir), stat(1, repeat("n", 256), true, api.ErrLong), stat(1, "\x00", true, api.ErrForm),
		stat(99, "y", true, api.ErrNone), stat(0, ".", true, api.ErrNone), stat(-1, ".", true, api.ErrNone), stat(math.MaxInt, ".", true, api.ErrNone), stat(node(t, f, "y"), ".", true, api.ErrNotDir),
	})
}

func TestReadlink(t *testing.T) {
	f := aTree(t)
	for _, x := range [][2]string{{"l", "d/x"}, {"ld", "d"}, {"lost", "new"}, {"loop", "loop"}, {"ld/up", ".."}} {
		if s, e := f.Readlink(atRoot(0), x[0]); s != x[1] || e != api.OK {
			t.Errorf("Readlink of %s told %q %d", x[0], s, e)
		}
	}
	reads := func(s string, want api.Errno) row {
		return row{"Readlink " + s, func() api.Errno {
			target, e := f.Readlink(atRoot(0), s)
			if target != "" {
				return api.Errno(-1)
			}
			return e
		}, want}
	}
	ask(t, f, []row{
		reads("", api.ErrNone), reads("no", api.ErrNone), reads("l/", api.ErrNotDir), reads("loop/", api.ErrLoop), reads("lost/", api.ErrNone), reads("dark/s", api.ErrDenied), reads(repeat("n", 256), api.ErrLong), reads("\x00", api.ErrForm),
		reads("y", api.ErrKind), reads("d", api.ErrKind), reads("/", api.ErrKind), reads("ld/", api.ErrKind), reads("none", api.ErrKind),
	})
}

func TestList(t *testing.T) {
	f := aTree(t)
	want := []dir.Entry{{Name: "e", Node: node(t, f, "d/e")}, {Name: "up", Node: node(t, f, "d/up")}, {Name: "x", Node: node(t, f, "d/x")}}
	for _, s := range []string{"d", "d/", "ld", "ld/.", "/d/e/.."} {
		l, e := f.List(atRoot(0), s)
		if !slices.Equal(l, want) || e != api.OK {
			t.Errorf("List of %s told %v %d", s, l, e)
		}
		// It is new memory.
		l[0] = dir.Entry{}
	}
	if l, e := f.List(atRoot(0), "d/e"); len(l) != 0 || e != api.OK {
		t.Errorf("List of an empty directory told %v %d", l, e)
	}
	// It may be read, though nothing may be looked for in it.
	if l, e := f.List(atRoot(0), "dark"); len(l) != 1 || e != api.OK {
		t.Errorf("List of a dark directory told %v %d", l, e)
	}
	lists := func(s string, want api.Errno) row {
		return row{"List " + s, func() api.Errno {
			l, e := f.List(atRoot(0), s)
			if len(l) != 0 {
				return api.Errno(-1)
			}
			return e
		}, want}
	}
	ask(t, f, []row{
		lists("", api.ErrNone), lists("no", api.ErrNone), lists("lost", api.ErrNone), lists("loop", api.ErrLoop), lists("y/", api.ErrNotDir), lists("dark/.", api.ErrDenied), lists(repeat("n", 256), api.ErrLong), lists("\x00", api.ErrForm),
		lists("y", api.ErrNotDir), lists("l", api.ErrNotDir), lists("none", api.ErrNotDir), lists("blind", api.ErrDenied), lists("blind/.", api.ErrDenied),
	})
}

func TestChdir(t *testing.T) {
	f := aTree(t)
	for _, x := range [][2]string{{"d", "/d"}, {"ld", "/d"}, {"d/up", "/"}, {"/", "/"}, {".", "/"}, {"d/e/", "/d/e"}, {"shut", "/shut"}, {"blind", "/blind"}, {"d/e/..", "/d"}} {
		w, e := f.Chdir(atRoot(0o27), x[0])
		if w != (Who{At: node(t, f, x[1]), Mask: 0o27}) || e != api.OK {
			t.Errorf("Chdir of %s told %+v %d", x[0], w, e)
		}
		if s, e := f.Where(w); s != x[1] || e != api.OK {
			t.Errorf("Where of %s told %q %d", x[1], s, e)
		}
	}
	w, e := f.Chdir(Who{At: node(t, f, "d/e"), Mask: 7}, "../../shut/t")
	if w != (Who{At: node(t, f, "shut/t"), Mask: 7}) || e != api.OK {
		t.Errorf("Chdir from below told %+v %d", w, e)
	}
	goes := func(s string, want api.Errno) row {
		return row{"Chdir " + s, func() api.Errno {
			w, e := f.Chdir(atRoot(0o27), s)
			if w != (Who{}) {
				return api.Errno(-1)
			}
			return e
		}, want}
	}
	ask(t, f, []row{
		goes("", api.ErrNone), goes("no", api.ErrNone), goes("lost", api.ErrNone), goes("loop", api.ErrLoop), goes("y/", api.ErrNotDir), goes("dark/.", api.ErrDenied), goes(repeat("n", 256), api.ErrLong), goes("\x00", api.ErrForm),
		goes("y", api.ErrNotDir), goes("l", api.ErrNotDir), goes("none", api.ErrNotDir), goes("dark", api.ErrDenied), goes("dark/", api.ErrDenied),
	})
}

func TestWhere(t *testing.T) {
	f := aTree(t)
	for i, x := range []struct {
		at int
		s  string
		e  api.Errno
	}{
		{disk.Root, "/", api.OK}, {node(t, f, "d/e"), "/d/e", api.OK}, {node(t, f, "dark"), "/dark", api.OK}, {node(t, f, "blind"), "/blind", api.OK},
		{0, "", api.ErrNone}, {99, "", api.ErrNone}, {-1, "", api.ErrNone}, {node(t, f, "y"), "", api.ErrNotDir}, {node(t, f, "ld"), "", api.ErrNotDir},
	} {
		if s, e := f.Where(Who{At: x.at}); s != x.s || e != x.e {
			t.Errorf("row %d: Where told %q %d", i, s, e)
		}
	}
	at := Who{At: node(t, f, "d/e")}
	ok(t, "Rename", f.Rename(atRoot(0), "d", "q"))
	if s, e := f.Where(at); s != "/q/e" || e != api.OK {
		t.Errorf("Where of what was moved told %q %d", s, e)
	}
}

// P1: of numbers that are no modes, no flags and no nodes nothing is promised, but that the calls end.
func TestAnyNumbersEnd(t *testing.T) {
	odd := []int{math.MinInt, -1, 0, 1, 2, 32, 0o7777, 0o10000, math.MaxInt}
	for _, a := range odd {
		for _, b := range odd {
			f := aTree(t)
			w := Who{At: a, Mask: b}
			for _, s := range []string{"q", "y", "d", "/q2", "/y", "/d/e", "..", ""} {
				f.Mkdir(w, s, b)
				f.Chmod(w, s, b)
				f.Symlink(w, s, s)
				f.Link(w, s, s+"3")
				id, _ := f.Open(w, s, b, a)
				f.Write(id, a, s)
				f.Read(id, a, b)
				f.Close(id)
				f.Write(a, b, s)
				f.Read(a, b, a)
				f.Stat(w, s, true)
				f.Readlink(w, s)
				f.List(w, s)
				f.Chdir(w, s)
				f.Rename(w, s, "/r")
				f.Unlink(w, s)
				f.Rmdir(w, s)
			}
			f.Where(w)
			f.Close(a)
		}
	}
}
