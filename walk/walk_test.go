package walk

import (
	"fmt"
	"math"
	"strings"
	"testing"

	"seabag/api"
	"seabag/disk"
)

func repeat(s string, n int) string { return strings.Repeat(s, n) }

func newDisk(t *testing.T) *disk.Disk {
	t.Helper()
	d, e := disk.New(1 << 30)
	if e != api.OK {
		t.Fatalf("New told %d", e)
	}
	return d
}

// put is a new node that an entry alone keeps.
func put(t *testing.T, d *disk.Disk, folder int, name string, kind, mode int, data string) int {
	t.Helper()
	id, e := d.Make(kind, mode, data)
	if e != api.OK {
		t.Fatalf("Make of %.20q told %d", name, e)
	}
	if e := d.Enter(folder, name, id); e != api.OK {
		t.Fatalf("Enter of %.20q told %d", name, e)
	}
	if e := d.Release(id); e != api.OK {
		t.Fatalf("Release of %.20q told %d", name, e)
	}
	return id
}

func folder(t *testing.T, d *disk.Disk, at int, name string) int {
	t.Helper()
	return put(t, d, at, name, disk.Folder, 0o755, "")
}

func file(t *testing.T, d *disk.Disk, at int, name string) int {
	t.Helper()
	return put(t, d, at, name, disk.File, 0o644, "")
}

func link(t *testing.T, d *disk.Disk, at int, name, target string) int {
	t.Helper()
	return put(t, d, at, name, disk.Symlink, 0o777, target)
}

func chmod(t *testing.T, d *disk.Disk, id, mode int) {
	t.Helper()
	if e := d.Chmod(id, mode); e != api.OK {
		t.Fatalf("Chmod(%d, %o) told %d", id, mode, e)
	}
}

// row is where a path leads from a node, if its last part is followed, and if it isn't.
type row struct {
	from   int
	s      string
	follow bool
	want   Place
	e      api.Errno
}

func named(node, dir int, name string) Place { return Place{Node: node, Dir: dir, Name: name} }

func check(t *testing.T, d *disk.Disk, rows []row) {
	t.Helper()
	for i, x := range rows {
		wantPlace(t, fmt.Sprint("row ", i), d, x)
	}
}

// wantPlace holds Find against what is wanted, and There against what that says of it.
func wantPlace(t *testing.T, what string, d *disk.Disk, x row) {
	t.Helper()
	if p, e := Find(d, x.from, x.s, x.follow); p != x.want || e != x.e {
		t.Errorf("%s: Find(%d, %.60q, %v) told %#v %d, want %#v %d", what, x.from, x.s, x.follow, p, e, x.want, x.e)
	}
	if x.e == api.OK && x.want.Node == 0 {
		x.want, x.e = Place{}, api.ErrNone
	}
	if p, e := There(d, x.from, x.s, x.follow); p != x.want || e != x.e {
		t.Errorf("%s: There(%d, %.60q, %v) told %#v %d, want %#v %d", what, x.from, x.s, x.follow, p, e, x.want, x.e)
	}
}

// both are a row with the last part followed, and one without.
func both(from int, s string, want Place, e api.Errno) []row {
	return []row{{from, s, true, want, e}, {from, s, false, want, e}}
}

func refused(from int, s string, e api.Errno) []row { return both(from, s, Place{}, e) }

func all(rows ...[]row) []row {
	var out []row
	for _, r := range rows {
		out = append(out, r...)
	}
	return out
}

// The chapter's example.
func TestExample(t *testing.T) {
	d := newDisk(t)
	h := folder(t, d, disk.Root, "h")
	folder(t, d, h, "d")
	link(t, d, h, "l", "d/..")
	check(t, d, all(
		both(h, "l/x", named(0, h, "x"), api.OK),
		both(disk.Root, "h/l/x", named(0, h, "x"), api.OK),
	))
	x := file(t, d, h, "x")
	check(t, d, both(h, "l/x", named(x, h, "x"), api.OK))
}

// P5.1

func TestPartsAreGoneOneByOne(t *testing.T) {
	d := newDisk(t)
	a := folder(t, d, disk.Root, "a")
	b := folder(t, d, a, "b")
	f := file(t, d, b, "f")
	odd := folder(t, d, b, "... \xff\n*")
	for _, from := range []int{disk.Root, a, b} {
		check(t, d, all(
			both(from, "/a", named(a, disk.Root, "a"), api.OK),
			both(from, "/a/b", named(b, a, "b"), api.OK),
			both(from, "/a/b/f", named(f, b, "f"), api.OK),
			both(from, "//a///b//f", named(f, b, "f"), api.OK),
			both(from, "/a/b/", named(b, a, "b"), api.OK),
			both(from, "/a/b///", named(b, a, "b"), api.OK),
			both(from, "/./a/./b/.", Place{Node: b}, api.OK),
			both(from, "/a/b/..", Place{Node: a}, api.OK),
			both(from, "/a/b/../", Place{Node: a}, api.OK),
			both(from, "/a/b/../..", Place{Node: disk.Root}, api.OK),
			both(from, "/a/b/../../../../a", named(a, disk.Root, "a"), api.OK),
			both(from, "/a/b/... \xff\n*/../f", named(f, b, "f"), api.OK),
			both(from, "/a/b/... \xff\n*/.", Place{Node: odd}, api.OK),
			both(from, ".", Place{Node: from}, api.OK),
			both(from, "./", Place{Node: from}, api.OK),
			both(from, "./././", Place{Node: from}, api.OK),
		))
	}
	check(t, d, all(
		both(disk.Root, "a", named(a, disk.Root, "a"), api.OK),
		both(disk.Root, "a/b/f", named(f, b, "f"), api.OK),
		both(disk.Root, "..", Place{Node: disk.Root}, api.OK),
		both(disk.Root, "../..", Place{Node: disk.Root}, api.OK),
		both(disk.Root, "../a", named(a, disk.Root, "a"), api.OK),
		both(a, "b", named(b, a, "b"), api.OK),
		both(a, "b/f", named(f, b, "f"), api.OK),
		both(a, "..", Place{Node: disk.Root}, api.OK),
		both(b, "f", named(f, b, "f"), api.OK),
		both(b, "../b/f", named(f, b, "f"), api.OK),
		both(b, "..", Place{Node: a}, api.OK),
		both(b, "../..", Place{Node: disk.Root}, api.OK),
		both(b, "... \xff\n*", named(odd, b, "... \xff\n*"), api.OK),
	))
}

func TestNamesThatAreNotThere(t *testing.T) {
	d := newDisk(t)
	a := folder(t, d, disk.Root, "a")
	check(t, d, all(
		both(disk.Root, "x", named(0, disk.Root, "x"), api.OK),
		both(a, "x", named(0, a, "x"), api.OK),
		both(a, "a", named(0, a, "a"), api.OK),
		both(a, "x/", named(0, a, "x"), api.OK),
		both(a, "x///", named(0, a, "x"), api.OK),
		both(a, "/x", named(0, disk.Root, "x"), api.OK),
		both(disk.Root, "a/x", named(0, a, "x"), api.OK),
		both(disk.Root, "a/...", named(0, a, "..."), api.OK),
		refused(disk.Root, "x/a", api.ErrNone),
		refused(disk.Root, "x/.", api.ErrNone),
		refused(disk.Root, "x/..", api.ErrNone),
		refused(disk.Root, "x/../a", api.ErrNone),
		refused(disk.Root, "a/x/y", api.ErrNone),
		refused(disk.Root, "x//./", api.ErrNone),
		refused(disk.Root, "x/"+repeat("n", 256), api.ErrNone),
	))
}

func TestThePathIsLookedAtFirst(t *testing.T) {
	d := newDisk(t)
	f := file(t, d, disk.Root, "f")
	for _, from := range []int{disk.Root, f, 0, -1, 99, math.MaxInt, math.MinInt} {
		check(t, d, all(
			refused(from, "", api.ErrNone),
			refused(from, repeat("x", 4096), api.ErrLong),
			refused(from, repeat("/", 4096), api.ErrLong),
			refused(from, repeat("/", 1<<22), api.ErrLong),
			refused(from, repeat("x", 4095)+"\x00", api.ErrLong),
			refused(from, "\x00", api.ErrForm),
			refused(from, "f/x\x00", api.ErrForm),
			refused(from, "/\x00/f", api.ErrForm),
			refused(from, "f\x00", api.ErrForm),
			refused(from, repeat("x", 4094)+"\x00", api.ErrForm),
			refused(from, repeat("n", 256)+"\x00", api.ErrForm),
		))
	}
}

func TestTheLongestPathsAndNames(t *testing.T) {
	d := newDisk(t)
	long, longest := repeat("n", 255), repeat("n", 256)
	a := folder(t, d, disk.Root, long)
	f := file(t, d, a, "f")
	check(t, d, all(
		both(disk.Root, long, named(a, disk.Root, long), api.OK),
		both(disk.Root, long+"/f", named(f, a, "f"), api.OK),
		both(a, long, named(0, a, long), api.OK),
		refused(a, longest, api.ErrLong),
		refused(a, longest+"/", api.ErrLong),
		refused(a, longest+"/x", api.ErrLong),
		refused(a, "x/"+longest, api.ErrNone),
		refused(disk.Root, long+"/f/"+longest, api.ErrNotDir),
		both(a, repeat("./", 2047)+"f", named(f, a, "f"), api.OK),
		refused(a, repeat("./", 2047)+"ff", api.ErrLong),
		both(a, repeat("/", 4094)+"f", named(0, disk.Root, "f"), api.OK),
		both(a, repeat("/", 4095), Place{Node: disk.Root}, api.OK),
		refused(a, repeat("/", 4096), api.ErrLong),
		refused(a, repeat(".", 256), api.ErrLong),
		both(a, repeat(".", 255), named(0, a, repeat(".", 255)), api.OK),
	))
}

func TestWhatIsNoDirectory(t *testing.T) {
	d := newDisk(t)
	f := file(t, d, disk.Root, "f")
	l := link(t, d, disk.Root, "l", ".")
	for _, from := range []int{0, -1, 2000, math.MaxInt, math.MinInt} {
		check(t, d, all(
			refused(from, "f", api.ErrNone),
			refused(from, ".", api.ErrNone),
			refused(from, "..", api.ErrNone),
			refused(from, repeat("n", 256), api.ErrNone),
			// From the root on nobody asks where one was.
			both(from, "/f", named(f, disk.Root, "f"), api.OK),
			both(from, "/", Place{Node: disk.Root}, api.OK),
		))
	}
	for _, from := range []int{f, l} {
		check(t, d, all(
			refused(from, "f", api.ErrNotDir),
			refused(from, ".", api.ErrNotDir),
			refused(from, "./", api.ErrNotDir),
			refused(from, "..", api.ErrNotDir),
			refused(from, repeat("n", 256), api.ErrNotDir),
			both(from, "/f", named(f, disk.Root, "f"), api.OK),
		))
	}
	check(t, d, all(
		refused(disk.Root, "f/", api.ErrNotDir),
		refused(disk.Root, "f//", api.ErrNotDir),
		refused(disk.Root, "f/x", api.ErrNotDir),
		refused(disk.Root, "f/.", api.ErrNotDir),
		refused(disk.Root, "f/..", api.ErrNotDir),
		refused(disk.Root, "f/../f", api.ErrNotDir),
	))
}

func TestDirectoriesThatMayNotBePassed(t *testing.T) {
	d := newDisk(t)
	a := folder(t, d, disk.Root, "a")
	b := folder(t, d, a, "b")
	f := file(t, d, a, "f")
	for _, m := range []int{0, 0o677, 0o7677, 0o011, 0o600} {
		chmod(t, d, a, m)
		check(t, d, all(
			both(disk.Root, "a", named(a, disk.Root, "a"), api.OK),
			both(disk.Root, "a/", named(a, disk.Root, "a"), api.OK),
			refused(disk.Root, "a/.", api.ErrDenied),
			refused(disk.Root, "a/..", api.ErrDenied),
			refused(disk.Root, "a/f", api.ErrDenied),
			refused(disk.Root, "a/x", api.ErrDenied),
			refused(disk.Root, "a/b/x", api.ErrDenied),
			refused(disk.Root, "a/"+repeat("n", 256), api.ErrDenied),
			refused(a, ".", api.ErrDenied),
			refused(a, "f", api.ErrDenied),
			both(a, "/a", named(a, disk.Root, "a"), api.OK),
			both(b, "..", Place{Node: a}, api.OK),
			refused(b, "../f", api.ErrDenied),
			refused(b, "../..", api.ErrDenied),
		))
	}
	for _, m := range []int{0o100, 0o7777, 0o111} {
		chmod(t, d, a, m)
		check(t, d, all(
			both(disk.Root, "a/f", named(f, a, "f"), api.OK),
			both(a, ".", Place{Node: a}, api.OK),
			both(b, "../..", Place{Node: disk.Root}, api.OK),
		))
	}
	// Files and links need no bit of their own.
	chmod(t, d, f, 0)
	l := link(t, d, a, "l", "f")
	chmod(t, d, l, 0)
	check(t, d, []row{{a, "l", true, named(f, a, "f"), api.OK}, {a, "l", false, named(l, a, "l"), api.OK}})
}

func TestTheRootMayNotBePassed(t *testing.T) {
	d := newDisk(t)
	a := folder(t, d, disk.Root, "a")
	f := file(t, d, a, "f")
	link(t, d, a, "l", "//")
	chmod(t, d, disk.Root, 0o677)
	for _, from := range []int{disk.Root, a, f, 0, 99} {
		check(t, d, all(
			refused(from, "/", api.ErrDenied),
			refused(from, "///", api.ErrDenied),
			refused(from, "/.", api.ErrDenied),
			refused(from, "/a", api.ErrDenied),
			refused(from, "/x", api.ErrDenied),
		))
	}
	check(t, d, all(
		both(a, "f", named(f, a, "f"), api.OK),
		both(a, "..", Place{Node: disk.Root}, api.OK),
		refused(a, "../a", api.ErrDenied),
		refused(a, "l/", api.ErrDenied),
		[]row{{a, "l", true, Place{}, api.ErrDenied}},
	))
	chmod(t, d, disk.Root, 0o100)
	check(t, d, all(both(a, "/", Place{Node: disk.Root}, api.OK), both(a, "l/", Place{Node: disk.Root}, api.OK)))
}

func TestLinks(t *testing.T) {
	d := newDisk(t)
	a := folder(t, d, disk.Root, "a")
	b := folder(t, d, a, "b")
	f := file(t, d, b, "f")
	toB := link(t, d, disk.Root, "toB", "a/b")
	toF := link(t, d, a, "toF", "b/f")
	abs := link(t, d, b, "abs", "/a/b")
	up := link(t, d, b, "up", "..")
	dot := link(t, d, a, "dot", ".")
	root := link(t, d, b, "root", "/")
	none := link(t, d, a, "none", "b/x")
	deep := link(t, d, a, "deep", "x/y")
	ends := link(t, d, a, "ends", "b//")
	endsF := link(t, d, a, "endsF", "b/f/")
	twice := link(t, d, b, "twice", "../../toB/up/toF")
	check(t, d, []row{
		{disk.Root, "toB", false, named(toB, disk.Root, "toB"), api.OK}, {disk.Root, "toB", true, named(b, a, "b"), api.OK},
		{a, "toF", false, named(toF, a, "toF"), api.OK}, {a, "toF", true, named(f, b, "f"), api.OK},
		{b, "abs", false, named(abs, b, "abs"), api.OK}, {b, "abs", true, named(b, a, "b"), api.OK},
		{b, "up", false, named(up, b, "up"), api.OK}, {b, "up", true, Place{Node: a}, api.OK},
		{a, "dot", false, named(dot, a, "dot"), api.OK}, {a, "dot", true, Place{Node: a}, api.OK},
		{b, "root", false, named(root, b, "root"), api.OK}, {b, "root", true, Place{Node: disk.Root}, api.OK},
		{a, "none", false, named(none, a, "none"), api.OK}, {a, "none", true, named(0, b, "x"), api.OK},
		{a, "deep", false, named(deep, a, "deep"), api.OK}, {a, "deep", true, Place{}, api.ErrNone},
		{a, "ends", false, named(ends, a, "ends"), api.OK}, {a, "ends", true, named(b, a, "b"), api.OK},
		{a, "endsF", false, named(endsF, a, "endsF"), api.OK}, {a, "endsF", true, Place{}, api.ErrNotDir},
		{b, "twice", false, named(twice, b, "twice"), api.OK}, {b, "twice", true, named(f, b, "f"), api.OK},
		// Only the last part is asked whether it is followed.
		{disk.Root, "toB/up/none", false, named(none, a, "none"), api.OK}, {disk.Root, "toB/up/none", true, named(0, b, "x"), api.OK},
		{disk.Root, "toB/abs", false, named(abs, b, "abs"), api.OK}, {disk.Root, "toB/abs", true, named(b, a, "b"), api.OK},
	})
	check(t, d, all(
		both(disk.Root, "toB/", named(b, a, "b"), api.OK),
		both(disk.Root, "toB//", named(b, a, "b"), api.OK),
		both(disk.Root, "toB/.", Place{Node: b}, api.OK),
		both(disk.Root, "toB/..", Place{Node: a}, api.OK),
		both(disk.Root, "toB/f", named(f, b, "f"), api.OK),
		both(disk.Root, "toB//x", named(0, b, "x"), api.OK),
		both(disk.Root, "toB/x/", named(0, b, "x"), api.OK),
		both(disk.Root, "toB/up/b/up/dot/b/f", named(f, b, "f"), api.OK),
		both(b, "abs/", named(b, a, "b"), api.OK),
		both(b, "root/a/b/abs/f", named(f, b, "f"), api.OK),
		both(b, "root/", Place{Node: disk.Root}, api.OK),
		both(b, "root//a", named(a, disk.Root, "a"), api.OK),
		both(a, "ends/f", named(f, b, "f"), api.OK),
		both(a, "none/", named(0, b, "x"), api.OK),
		refused(a, "none/y", api.ErrNone),
		refused(a, "deep/", api.ErrNone),
		refused(a, "toF/", api.ErrNotDir),
		refused(a, "toF/x", api.ErrNotDir),
		refused(a, "toF/..", api.ErrNotDir),
		refused(a, "endsF/", api.ErrNotDir),
		refused(a, "ends/f/", api.ErrNotDir),
		refused(disk.Root, "toB/f/", api.ErrNotDir),
	))
}

func TestALinkGoesOnFromItsDirectory(t *testing.T) {
	d := newDisk(t)
	a, other := folder(t, d, disk.Root, "a"), folder(t, d, disk.Root, "other")
	inA, inOther := file(t, d, a, "f"), file(t, d, other, "f")
	l := link(t, d, a, "l", "f")
	// The same node, by another directory's name.
	if e := d.Enter(other, "l", l); e != api.OK {
		t.Fatal(e)
	}
	check(t, d, []row{
		{a, "l", true, named(inA, a, "f"), api.OK}, {other, "../a/l", true, named(inA, a, "f"), api.OK},
		{other, "l", true, named(inOther, other, "f"), api.OK}, {a, "/other/l", true, named(inOther, other, "f"), api.OK},
	})
	// On the way through a link the directory's mode counts again.
	link(t, d, disk.Root, "through", "a/l")
	chmod(t, d, a, 0o600)
	check(t, d, []row{{disk.Root, "through", true, Place{}, api.ErrDenied}})
}

// chain are links l0, l1, .. of the root, l0 to first, and each further one to the one ahead of it.
func chain(t *testing.T, d *disk.Disk, first string, n int) {
	t.Helper()
	target := first
	for i := range n {
		name := fmt.Sprint("l", i)
		link(t, d, disk.Root, name, target)
		target = name
	}
}

func TestTheMostLinks(t *testing.T) {
	d := newDisk(t)
	a := folder(t, d, disk.Root, "a")
	f := file(t, d, a, "f")
	chain(t, d, "a", 45)
	for i := range 45 {
		name := fmt.Sprint("l", i)
		id, _ := d.Look(disk.Root, name)
		rows := []row{{disk.Root, name, false, named(id, disk.Root, name), api.OK}}
		if i < 40 {
			rows = append(rows, row{disk.Root, name, true, named(a, disk.Root, "a"), api.OK})
			rows = append(rows, all(both(a, "/"+name+"/f", named(f, a, "f"), api.OK), both(a, "/"+name+"/", named(a, disk.Root, "a"), api.OK))...)
		} else {
			rows = append(rows, row{disk.Root, name, true, Place{}, api.ErrLoop})
			rows = append(rows, all(refused(a, "/"+name+"/f", api.ErrLoop), refused(a, "/"+name+"/", api.ErrLoop))...)
		}
		check(t, d, rows)
	}
}

func TestAllLinksOfAWayAreCounted(t *testing.T) {
	d := newDisk(t)
	f := file(t, d, disk.Root, "f")
	link(t, d, disk.Root, "d", ".")
	to := link(t, d, disk.Root, "to", "f")
	check(t, d, all(
		both(disk.Root, repeat("d/", 40)+"f", named(f, disk.Root, "f"), api.OK),
		both(disk.Root, repeat("d/", 40), Place{Node: disk.Root}, api.OK),
		refused(disk.Root, repeat("d/", 41)+"f", api.ErrLoop),
		refused(disk.Root, repeat("d/", 41), api.ErrLoop),
		[]row{
			{disk.Root, repeat("d/", 39) + "to", true, named(f, disk.Root, "f"), api.OK},
			{disk.Root, repeat("d/", 40) + "to", false, named(to, disk.Root, "to"), api.OK},
			{disk.Root, repeat("d/", 40) + "to", true, Place{}, api.ErrLoop},
		},
		// The first that is wrong is told.
		refused(disk.Root, repeat("d/", 40)+"x/d", api.ErrNone),
		refused(disk.Root, repeat("d/", 40)+"f/d", api.ErrNotDir),
		refused(disk.Root, repeat("d/", 41)+"x/d", api.ErrLoop),
	))
}

func TestLoops(t *testing.T) {
	d := newDisk(t)
	self := link(t, d, disk.Root, "self", "self")
	link(t, d, disk.Root, "ping", "pong")
	link(t, d, disk.Root, "pong", "/ping")
	link(t, d, disk.Root, "slash", "slash/")
	link(t, d, disk.Root, "dots", "./dots/..")
	link(t, d, disk.Root, "grows", "grows/"+repeat("x", 200))
	check(t, d, all(
		[]row{{disk.Root, "self", false, named(self, disk.Root, "self"), api.OK}, {disk.Root, "self", true, Place{}, api.ErrLoop}, {disk.Root, "ping", true, Place{}, api.ErrLoop}, {disk.Root, "slash", true, Place{}, api.ErrLoop}},
		refused(disk.Root, "self/", api.ErrLoop),
		refused(disk.Root, "self/x", api.ErrLoop),
		refused(disk.Root, "pong/.", api.ErrLoop),
		refused(disk.Root, "slash/x", api.ErrLoop),
		refused(disk.Root, "dots/x", api.ErrLoop),
		// It is too long after twenty, ahead of link number 41.
		refused(disk.Root, "grows/x", api.ErrLong),
	))
}

func TestALinksPathIsLookedAt(t *testing.T) {
	d := newDisk(t)
	f := file(t, d, disk.Root, "f")
	long := repeat("/", 4094) + "f"
	link(t, d, disk.Root, "long", long)
	link(t, d, disk.Root, "longer", "/"+long)
	link(t, d, disk.Root, "longest", repeat("/", 1<<22))
	link(t, d, disk.Root, "nought", "f\x00")
	link(t, d, disk.Root, "both", repeat("\x00", 4096))
	link(t, d, disk.Root, "atMost", repeat("\x00", 4095))
	link(t, d, disk.Root, "name", repeat("n", 256))
	link(t, d, disk.Root, "room", repeat("/", 4093))
	link(t, d, disk.Root, "full", repeat("/", 4095))
	check(t, d, all(
		[]row{
			{disk.Root, "long", true, named(f, disk.Root, "f"), api.OK},
			{disk.Root, "longer", true, Place{}, api.ErrLong},
			{disk.Root, "longest", true, Place{}, api.ErrLong},
			{disk.Root, "nought", true, Place{}, api.ErrForm},
			{disk.Root, "both", true, Place{}, api.ErrLong},
			{disk.Root, "atMost", true, Place{}, api.ErrForm},
			{disk.Root, "name", true, Place{}, api.ErrLong},
		},
		// What is left, and the slash at the end, count with it.
		refused(disk.Root, "long/", api.ErrLong),
		refused(disk.Root, "long/x", api.ErrLong),
		refused(disk.Root, "atMost/", api.ErrLong),
		refused(disk.Root, "nought/x", api.ErrForm),
		both(disk.Root, "room/xy", named(0, disk.Root, "xy"), api.OK),
		both(disk.Root, "room/x/", named(0, disk.Root, "x"), api.OK),
		refused(disk.Root, "room/xy/", api.ErrLong),
		refused(disk.Root, "room/xyz", api.ErrLong),
		both(disk.Root, "full/", Place{Node: disk.Root}, api.OK),
		refused(disk.Root, "full/f", api.ErrLong),
		// Slashes that the path has more than it needs aren't handed on.
		both(disk.Root, "room////f", named(f, disk.Root, "f"), api.OK),
		both(disk.Root, "room////x///", named(0, disk.Root, "x"), api.OK),
		both(disk.Root, "room///", Place{Node: disk.Root}, api.OK),
	))
}

func TestManyPartsBehindALongTarget(t *testing.T) {
	d := newDisk(t)
	link(t, d, disk.Root, "l", repeat("x", 1<<22))
	check(t, d, refused(disk.Root, "l"+repeat("/y", 2047), api.ErrLong))
}

func TestPathErrorsStandBehindTheLoop(t *testing.T) {
	d := newDisk(t)
	link(t, d, disk.Root, "d", ".")
	link(t, d, disk.Root, "nought", "\x00")
	check(t, d, []row{
		{disk.Root, repeat("d/", 39) + "nought", true, Place{}, api.ErrForm},
		{disk.Root, repeat("d/", 40) + "nought", true, Place{}, api.ErrLoop},
	})
}

func TestLinksWithAnEmptyTarget(t *testing.T) {
	d := newDisk(t)
	a := folder(t, d, disk.Root, "a")
	x := file(t, d, disk.Root, "x")
	l := link(t, d, a, "l", "")
	link(t, d, a, "d", ".")
	check(t, d, all(
		both(a, "l", named(l, a, "l"), api.OK),
		refused(a, "l/", api.ErrNotDir),
		refused(a, "l/x", api.ErrNotDir),
		refused(a, "l/.", api.ErrNotDir),
		refused(a, "l/"+repeat("n", 256), api.ErrNotDir),
		both(a, "../x", named(x, disk.Root, "x"), api.OK),
		[]row{
			{a, repeat("d/", 39) + "l", true, named(l, a, "l"), api.OK},
			{a, repeat("d/", 40) + "l", false, named(l, a, "l"), api.OK},
			{a, repeat("d/", 40) + "l", true, Place{}, api.ErrLoop},
		},
		refused(a, repeat("d/", 39)+"l/", api.ErrNotDir),
		refused(a, repeat("d/", 40)+"l/", api.ErrLoop),
		refused(a, repeat("d/", 40)+"l/x", api.ErrLoop),
	))
}

func TestNodesWithSeveralNames(t *testing.T) {
	d := newDisk(t)
	a := folder(t, d, disk.Root, "a")
	f := file(t, d, a, "f")
	if e := d.Enter(disk.Root, "g", f); e != api.OK {
		t.Fatal(e)
	}
	check(t, d, all(both(a, "f", named(f, a, "f"), api.OK), both(a, "../g", named(f, disk.Root, "g"), api.OK)))
}

func TestFromADirectoryWithoutAName(t *testing.T) {
	d := newDisk(t)
	a := folder(t, d, disk.Root, "a")
	d.Hold(a)
	if e := d.Leave(disk.Root, "a"); e != api.OK {
		t.Fatal(e)
	}
	check(t, d, all(
		both(a, ".", Place{Node: a}, api.OK),
		both(a, "x", named(0, a, "x"), api.OK),
		both(a, "/", Place{Node: disk.Root}, api.OK),
	))
	// Nothing is promised of what lies above it, but that the call ends.
	Find(d, a, "..", true)
	Find(d, a, "../../x", true)
	d.Release(a)
	check(t, d, all(refused(a, ".", api.ErrNone), refused(a, "x", api.ErrNone)))
}

func TestWhatIsMovedIsFoundThere(t *testing.T) {
	d := newDisk(t)
	a, b := folder(t, d, disk.Root, "a"), folder(t, d, disk.Root, "b")
	c := folder(t, d, a, "c")
	if e := d.Move(a, "c", b, "e"); e != api.OK {
		t.Fatal(e)
	}
	check(t, d, all(both(c, "..", Place{Node: b}, api.OK), both(disk.Root, "a/c", named(0, a, "c"), api.OK), both(a, "../b/e", named(c, b, "e"), api.OK)))
	wantWhole(t, d, c, "/b/e", api.OK)
}

// P5.2

func wantWhole(t *testing.T, d *disk.Disk, id int, want string, we api.Errno) {
	t.Helper()
	if s, e := Whole(d, id); s != want || e != we {
		t.Errorf("Whole(%d) told %.60q %d, want %.60q %d", id, s, e, want, we)
	}
}

func TestWhole(t *testing.T) {
	d := newDisk(t)
	wantWhole(t, d, disk.Root, "/", api.OK)
	a := folder(t, d, disk.Root, "a")
	c := folder(t, d, disk.Root, "c")
	b := folder(t, d, a, "b")
	file(t, d, a, "a")
	inA := folder(t, d, a, "c")
	odd := folder(t, d, b, "... \xff\n*")
	wantWhole(t, d, disk.Root, "/", api.OK)
	wantWhole(t, d, a, "/a", api.OK)
	wantWhole(t, d, b, "/a/b", api.OK)
	wantWhole(t, d, c, "/c", api.OK)
	wantWhole(t, d, inA, "/a/c", api.OK)
	wantWhole(t, d, odd, "/a/b/... \xff\n*", api.OK)
	// Nothing is looked for by the way that may not be passed.
	for _, id := range []int{disk.Root, a, b, odd} {
		chmod(t, d, id, 0)
	}
	wantWhole(t, d, odd, "/a/b/... \xff\n*", api.OK)
}

func TestWholeOfWhatIsNoDirectory(t *testing.T) {
	d := newDisk(t)
	a := folder(t, d, disk.Root, "a")
	for _, id := range []int{file(t, d, disk.Root, "f"), link(t, d, disk.Root, "l", "a"), link(t, d, a, "e", "")} {
		wantWhole(t, d, id, "", api.ErrNotDir)
	}
	loose, _ := d.Make(disk.File, 0, "")
	wantWhole(t, d, loose, "", api.ErrNotDir)
	for _, id := range []int{0, -1, loose + 1, math.MaxInt, math.MinInt} {
		wantWhole(t, d, id, "", api.ErrNone)
	}
	if e := d.Leave(a, "e"); e != api.OK {
		t.Fatal(e)
	}
	if e := d.Leave(disk.Root, "a"); e != api.OK {
		t.Fatal(e)
	}
	wantWhole(t, d, a, "", api.ErrNone)
}

func TestWholeOfTheDeepest(t *testing.T) {
	d := newDisk(t)
	name := repeat("n", 255)
	at, want := disk.Root, strings.Builder{}
	for d.Count() < api.MaxNodes {
		at = folder(t, d, at, name)
		want.WriteString("/" + name)
	}
	wantWhole(t, d, at, want.String(), api.OK)
}

func TestWholeAmongManyEntries(t *testing.T) {
	d := newDisk(t)
	at, want := disk.Root, ""
	for range 20 {
		for i := range 200 {
			file(t, d, at, fmt.Sprint(i))
		}
		at = folder(t, d, at, "99x")
		want += "/99x"
	}
	wantWhole(t, d, at, want, api.OK)
}

// Of these nothing is promised, but that the call ends.
func TestWholeOfWhatTheRootDoesNotReach(t *testing.T) {
	d := newDisk(t)
	loose, _ := d.Make(disk.Folder, 0o755, "")
	below := folder(t, d, loose, "below")
	Whole(d, loose)
	Whole(d, below)
	d.Enter(below, "round", loose)
	Whole(d, loose)
	Whole(d, below)
	Find(d, below, repeat("../", 1000), true)
	Find(d, below, "round/below/round/below/x", true)
	itself, _ := d.Make(disk.Folder, 0o755, "")
	d.Enter(itself, "itself", itself)
	Whole(d, itself)
	Find(d, itself, repeat("itself/", 500), true)
}
