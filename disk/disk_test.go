package disk

import (
	"fmt"
	"math"
	"slices"
	"strings"
	"testing"

	"seabag/api"
	"seabag/dir"
)

func repeat(s string, n int) string { return strings.Repeat(s, n) }

// nowhere are numbers that no node of a new disk has.
func nowhere() []int { return []int{0, -1, 2, 1 << 16, math.MaxInt, math.MinInt} }

func newDisk(t *testing.T, room int) *Disk {
	t.Helper()
	d, e := New(room)
	if d == nil || e != api.OK {
		t.Fatalf("New(%d) told %v %d", room, d, e)
	}
	return d
}

func made(t *testing.T, d *Disk, kind int, data string) int {
	t.Helper()
	id, e := d.Make(kind, 0o644, data)
	if e != api.OK {
		t.Fatalf("Make of %.20q told %d", data, e)
	}
	return id
}

func wantErrno(t *testing.T, what string, got, want api.Errno) {
	t.Helper()
	if got != want {
		t.Errorf("%s told %d, want %d", what, got, want)
	}
}

// entered is a new node that an entry alone keeps.
func entered(t *testing.T, d *Disk, folder int, name string, kind int, data string) int {
	t.Helper()
	id := made(t, d, kind, data)
	wantErrno(t, "Enter", d.Enter(folder, name, id), api.OK)
	wantErrno(t, "Release", d.Release(id), api.OK)
	return id
}

func wantInfo(t *testing.T, d *Disk, id int, want Info) {
	t.Helper()
	if got, e := d.Info(id); got != want || e != api.OK {
		t.Errorf("Info(%d) told %+v %d, want %+v", id, got, e, want)
	}
}

func wantGone(t *testing.T, d *Disk, ids ...int) {
	t.Helper()
	for _, id := range ids {
		if got, e := d.Info(id); got != (Info{}) || e != api.ErrNone {
			t.Errorf("Info(%d), that is gone, told %+v %d", id, got, e)
		}
	}
}

func wantData(t *testing.T, d *Disk, id int, want string) {
	t.Helper()
	if got, e := d.Data(id); got != want || e != api.OK {
		t.Errorf("Data(%d) told %.40q %d, want %.40q", id, got, e, want)
	}
}

func wantTaken(t *testing.T, d *Disk, used, count int) {
	t.Helper()
	if d.Used() != used || d.Count() != count {
		t.Errorf("%d bytes are taken by %d nodes, want %d by %d", d.Used(), d.Count(), used, count)
	}
}

func wantUp(t *testing.T, d *Disk, id, want int) {
	t.Helper()
	if got, e := d.Up(id); got != want || e != api.OK {
		t.Errorf("Up(%d) told %d %d, want %d", id, got, e, want)
	}
}

func wantLook(t *testing.T, d *Disk, id int, name string, want int, we api.Errno) {
	t.Helper()
	if got, e := d.Look(id, name); got != want || e != we {
		t.Errorf("Look(%d, %.20q) told %d %d, want %d %d", id, name, got, e, want, we)
	}
}

// The chapter's example.
func TestExample(t *testing.T) {
	d := newDisk(t, 100)
	entered(t, d, Root, "x", File, "abc")
	wantTaken(t, d, 4, 2)
}

// P4.1

func TestKindsAndRootAreNumbered(t *testing.T) {
	if File != 1 || Folder != 2 || Symlink != 3 || Root != 1 {
		t.Error(File, Folder, Symlink, Root)
	}
}

func TestNew(t *testing.T) {
	for _, room := range []int{-1, -100, math.MinInt} {
		if d, e := New(room); d != nil || e != api.ErrRange {
			t.Errorf("New(%d) told %v %d", room, d, e)
		}
	}
	for _, room := range []int{0, 1, 1 << 40, math.MaxInt} {
		d := newDisk(t, room)
		wantTaken(t, d, 0, 1)
		if d.Room() != room {
			t.Errorf("New(%d) has the room %d", room, d.Room())
		}
		wantInfo(t, d, Root, Info{Kind: Folder, Mode: 0o755, Links: 1})
		wantUp(t, d, Root, Root)
		if l, e := d.List(Root); len(l) != 0 || e != api.OK {
			t.Errorf("a new root has %#v %d", l, e)
		}
	}
}

func TestMake(t *testing.T) {
	d := newDisk(t, 100)
	for i, x := range []struct {
		kind, mode int
		data       string
	}{
		{File, 0, ""}, {File, 0o7777, "abc"}, {Folder, 0o700, ""}, {Symlink, 0o777, "to/there"}, {Symlink, 0, ""}, {File, 0o644, "\x00\xff\n"},
	} {
		id, e := d.Make(x.kind, x.mode, x.data)
		if id != i+2 || e != api.OK {
			t.Errorf("Make number %d told %d %d", i, id, e)
		}
		wantInfo(t, d, id, Info{Kind: x.kind, Mode: x.mode, Holds: 1, Size: len(x.data)})
		if x.kind != Folder {
			wantData(t, d, id, x.data)
		}
	}
	wantTaken(t, d, 3+8+3, 7)
}

func TestMakeTellsTheFirstError(t *testing.T) {
	d := newDisk(t, 10)
	made(t, d, File, "123")
	for i, x := range []struct {
		kind, mode int
		data       string
		e          api.Errno
	}{
		{0, 0, "", api.ErrKind}, {4, 0, "", api.ErrKind}, {-1, 0, "", api.ErrKind}, {math.MaxInt, 0, "", api.ErrKind}, {math.MinInt, 0, "", api.ErrKind},
		{Folder, 0, "a", api.ErrKind},
		{0, -1, "", api.ErrKind}, {Folder, 0o10000, "a", api.ErrKind}, {Folder, 0, repeat("x", 1<<22+1), api.ErrKind},
		{File, -1, "", api.ErrRange}, {Folder, 0o10000, "", api.ErrRange}, {Symlink, math.MaxInt, "", api.ErrRange}, {File, math.MinInt, "", api.ErrRange},
		{File, -1, repeat("x", 1<<22+1), api.ErrRange}, {File, -1, repeat("x", 11), api.ErrRange},
		{File, 0, repeat("x", 1<<22+1), api.ErrLong}, {Symlink, 0, repeat("x", 1<<22+1), api.ErrLong},
		{File, 0, repeat("x", 1<<22), api.ErrSpace}, {File, 0, repeat("x", 8), api.ErrSpace}, {Symlink, 0, repeat("x", 8), api.ErrSpace},
		{File, 0, repeat("x", 7), api.OK}, {File, 0, "x", api.ErrSpace}, {File, 0, "", api.OK}, {Folder, 0, "", api.OK},
	} {
		count := d.Count()
		id, e := d.Make(x.kind, x.mode, x.data)
		if e != x.e || (e == api.OK) != (id != 0) {
			t.Errorf("row %d: Make(%d, %o, %.10q) told %d %d, want %d", i, x.kind, x.mode, x.data, id, e, x.e)
		}
		if e != api.OK && d.Count() != count {
			t.Errorf("row %d: refused, and made", i)
		}
	}
	wantTaken(t, d, 10, 5)
}

func TestMakeOfTheLongest(t *testing.T) {
	d := newDisk(t, 1<<23)
	long := repeat("x", 1<<22)
	a, b := made(t, d, File, long), made(t, d, Symlink, long)
	wantInfo(t, d, a, Info{Kind: File, Mode: 0o644, Holds: 1, Size: 1 << 22})
	wantInfo(t, d, b, Info{Kind: Symlink, Mode: 0o644, Holds: 1, Size: 1 << 22})
	wantTaken(t, d, 1<<23, 3)
}

func TestNumbersAreNeverTakenAgain(t *testing.T) {
	d := newDisk(t, 10)
	a := made(t, d, File, "")
	b := made(t, d, File, "")
	d.Release(b)
	if c := made(t, d, File, ""); a != 2 || b != 3 || c != 4 {
		t.Error(a, b, c)
	}
	// What was refused took no number.
	d.Make(File, 0, repeat("x", 11))
	d.Make(File, -1, "")
	if c := made(t, d, Folder, ""); c != 5 {
		t.Error(c)
	}
}

func TestMostNodes(t *testing.T) {
	d := newDisk(t, 1)
	for i := 2; i <= 1<<16; i++ {
		if id, e := d.Make(File, 0, ""); id != i || e != api.OK {
			t.Fatalf("Make of %d told %d %d", i, id, e)
		}
	}
	for i, x := range []struct {
		kind, mode int
		data       string
		e          api.Errno
	}{
		{File, 0, "", api.ErrMany}, {Folder, 0, "", api.ErrMany}, {File, 0, "12", api.ErrMany},
		{File, 0, repeat("x", 1<<22+1), api.ErrLong}, {File, -1, "", api.ErrRange}, {9, 0, "", api.ErrKind},
	} {
		if id, e := d.Make(x.kind, x.mode, x.data); id != 0 || e != x.e {
			t.Errorf("row %d: told %d %d, want %d", i, id, e, x.e)
		}
	}
	wantTaken(t, d, 0, 1<<16)
	wantErrno(t, "Release", d.Release(1<<16), api.OK)
	if id, e := d.Make(File, 0, ""); id != 1<<16+1 || e != api.OK {
		t.Errorf("Make behind the most told %d %d", id, e)
	}
	wantTaken(t, d, 0, 1<<16)
}

func TestNoSuchNode(t *testing.T) {
	d := newDisk(t, 10)
	for _, id := range nowhere() {
		wantGone(t, d, id)
		wantErrno(t, "Hold", d.Hold(id), api.ErrNone)
		wantErrno(t, "Release", d.Release(id), api.ErrNone)
		wantErrno(t, "Chmod", d.Chmod(id, 0), api.ErrNone)
		wantErrno(t, "Chmod", d.Chmod(id, -1), api.ErrNone)
		if s, e := d.Data(id); s != "" || e != api.ErrNone {
			t.Errorf("Data(%d) told %q %d", id, s, e)
		}
		if s, e := d.Read(id, -1, -1); s != "" || e != api.ErrNone {
			t.Errorf("Read(%d) told %q %d", id, s, e)
		}
		wantErrno(t, "Write", d.Write(id, -1, ""), api.ErrNone)
		wantErrno(t, "Empty", d.Empty(id), api.ErrNone)
		wantLook(t, d, id, "x", 0, api.ErrNone)
		if l, e := d.List(id); l != nil || e != api.ErrNone {
			t.Errorf("List(%d) told %#v %d", id, l, e)
		}
		if up, e := d.Up(id); up != 0 || e != api.ErrNone {
			t.Errorf("Up(%d) told %d %d", id, up, e)
		}
		wantErrno(t, "Enter", d.Enter(id, "x", Root), api.ErrNone)
		wantErrno(t, "Enter", d.Enter(Root, "x", id), api.ErrNone)
		wantErrno(t, "Leave", d.Leave(id, "x"), api.ErrNone)
		wantErrno(t, "Move", d.Move(id, "x", Root, "y"), api.ErrNone)
	}
	wantTaken(t, d, 0, 1)
}

// P4.2

func TestHoldAndRelease(t *testing.T) {
	d := newDisk(t, 10)
	a := made(t, d, File, "abc")
	wantErrno(t, "Hold", d.Hold(a), api.OK)
	wantInfo(t, d, a, Info{Kind: File, Mode: 0o644, Holds: 2, Size: 3})
	wantErrno(t, "Release", d.Release(a), api.OK)
	wantInfo(t, d, a, Info{Kind: File, Mode: 0o644, Holds: 1, Size: 3})
	wantErrno(t, "Enter", d.Enter(Root, "x", a), api.OK)
	wantErrno(t, "Release", d.Release(a), api.OK)
	wantErrno(t, "Release", d.Release(a), api.ErrNone)
	wantInfo(t, d, a, Info{Kind: File, Mode: 0o644, Links: 1, Size: 3})
	wantTaken(t, d, 4, 2)
	wantErrno(t, "Hold", d.Hold(a), api.OK)
	wantErrno(t, "Leave", d.Leave(Root, "x"), api.OK)
	wantInfo(t, d, a, Info{Kind: File, Mode: 0o644, Holds: 1, Size: 3})
	wantTaken(t, d, 3, 2)
	wantErrno(t, "Release", d.Release(a), api.OK)
	wantGone(t, d, a)
	wantTaken(t, d, 0, 1)
	wantErrno(t, "Release", d.Release(a), api.ErrNone)
	wantErrno(t, "Hold", d.Hold(a), api.ErrNone)
}

func TestTheRootIsHeldAndReleasedAndStays(t *testing.T) {
	d := newDisk(t, 10)
	wantErrno(t, "Release", d.Release(Root), api.ErrNone)
	wantErrno(t, "Hold", d.Hold(Root), api.OK)
	wantInfo(t, d, Root, Info{Kind: Folder, Mode: 0o755, Links: 1, Holds: 1})
	wantErrno(t, "Release", d.Release(Root), api.OK)
	wantErrno(t, "Release", d.Release(Root), api.ErrNone)
	wantInfo(t, d, Root, Info{Kind: Folder, Mode: 0o755, Links: 1})
}

func TestAFolderThatGoesTakesItsEntries(t *testing.T) {
	d := newDisk(t, 100)
	top := made(t, d, Folder, "")
	inner := entered(t, d, top, "inner", Folder, "")
	leaf := entered(t, d, inner, "leaf", File, "12345")
	twice := entered(t, d, inner, "a", File, "67")
	wantErrno(t, "Enter", d.Enter(inner, "b", twice), api.OK)
	wantErrno(t, "Enter", d.Enter(top, "c", twice), api.OK)
	link := entered(t, d, inner, "link", Symlink, "leaf")
	held := entered(t, d, inner, "held", Folder, "")
	kept := entered(t, d, held, "kept", File, "8")
	d.Hold(held)
	named := entered(t, d, inner, "named", File, "9")
	wantErrno(t, "Enter", d.Enter(Root, "n", named), api.OK)
	wantErrno(t, "Release", d.Release(top), api.OK)
	wantGone(t, d, top, inner, leaf, twice, link)
	wantInfo(t, d, held, Info{Kind: Folder, Mode: 0o644, Holds: 1, Size: 1})
	wantInfo(t, d, kept, Info{Kind: File, Mode: 0o644, Links: 1, Size: 1})
	wantInfo(t, d, named, Info{Kind: File, Mode: 0o644, Links: 1, Size: 1})
	wantTaken(t, d, len("kept")+1+len("n")+1, 4)
	wantErrno(t, "Enter", d.Enter(Root, "again", held), api.OK)
	wantUp(t, d, held, Root)
}

func TestDeepFoldersGo(t *testing.T) {
	d := newDisk(t, 1<<20)
	top := made(t, d, Folder, "")
	at := top
	for d.Count() < api.MaxNodes {
		at = entered(t, d, at, "d", Folder, "")
	}
	wantTaken(t, d, 1<<16-2, 1<<16)
	wantErrno(t, "Release", d.Release(top), api.OK)
	wantGone(t, d, top, at)
	wantTaken(t, d, 0, 1)
}

func TestAFolderThatIsLeftAndHeld(t *testing.T) {
	d := newDisk(t, 100)
	a := entered(t, d, Root, "a", Folder, "")
	d.Hold(a)
	wantErrno(t, "Leave", d.Leave(Root, "a"), api.OK)
	x := entered(t, d, a, "x", File, "abc")
	wantInfo(t, d, a, Info{Kind: Folder, Mode: 0o644, Holds: 1, Size: 1})
	wantTaken(t, d, 4, 3)
	d.Release(a)
	wantGone(t, d, a, x)
	wantTaken(t, d, 0, 1)
}

func TestChmod(t *testing.T) {
	d := newDisk(t, 10)
	ids := []int{Root, made(t, d, File, "f"), made(t, d, Folder, ""), made(t, d, Symlink, "l")}
	for _, id := range ids {
		before, _ := d.Info(id)
		for _, m := range []int{0, 1, 0o755, 0o7777} {
			wantErrno(t, "Chmod", d.Chmod(id, m), api.OK)
			for _, wrong := range []int{-1, 0o10000, math.MaxInt, math.MinInt} {
				wantErrno(t, "Chmod", d.Chmod(id, wrong), api.ErrRange)
			}
			before.Mode = m
			wantInfo(t, d, id, before)
		}
	}
}

// P4.3

func TestDataOfFolders(t *testing.T) {
	d := newDisk(t, 10)
	for _, id := range []int{Root, made(t, d, Folder, "")} {
		if s, e := d.Data(id); s != "" || e != api.ErrIsDir {
			t.Errorf("Data told %q %d", s, e)
		}
		if s, e := d.Read(id, -1, -1); s != "" || e != api.ErrIsDir {
			t.Errorf("Read told %q %d", s, e)
		}
		wantErrno(t, "Write", d.Write(id, -1, ""), api.ErrIsDir)
		wantErrno(t, "Empty", d.Empty(id), api.ErrIsDir)
	}
}

func TestRead(t *testing.T) {
	d := newDisk(t, 20)
	for _, id := range []int{made(t, d, File, "abcdef"), made(t, d, Symlink, "abcdef")} {
		for _, x := range []struct {
			at, most int
			want     string
			e        api.Errno
		}{
			{0, 6, "abcdef", 0}, {0, 7, "abcdef", 0}, {0, math.MaxInt, "abcdef", 0}, {0, 0, "", 0}, {0, 1, "a", 0}, {2, 3, "cde", 0}, {2, 4, "cdef", 0}, {2, 5, "cdef", 0}, {5, 1, "f", 0}, {5, math.MaxInt, "f", 0},
			{6, 0, "", 0}, {6, 1, "", 0}, {7, 1, "", 0}, {math.MaxInt, 1, "", 0}, {math.MaxInt, math.MaxInt, "", 0}, {1 << 22, 1 << 22, "", 0},
			{-1, 1, "", api.ErrRange}, {0, -1, "", api.ErrRange}, {-1, -1, "", api.ErrRange}, {math.MinInt, math.MaxInt, "", api.ErrRange}, {9, math.MinInt, "", api.ErrRange},
		} {
			if s, e := d.Read(id, x.at, x.most); s != x.want || e != x.e {
				t.Errorf("Read(%d, %d, %d) told %q %d, want %q %d", id, x.at, x.most, s, e, x.want, x.e)
			}
		}
		wantData(t, d, id, "abcdef")
	}
}

func TestWrite(t *testing.T) {
	d := newDisk(t, 20)
	id := made(t, d, File, "")
	made(t, d, File, "12345678")
	for i, x := range []struct {
		at   int
		s    string
		e    api.Errno
		want string
	}{
		{0, "", api.OK, ""}, {7, "", api.OK, ""},
		{0, "abc", api.OK, "abc"}, {0, "A", api.OK, "Abc"}, {1, "BC", api.OK, "ABC"}, {3, "d", api.OK, "ABCd"}, {3, "De", api.OK, "ABCDe"}, {7, "h", api.OK, "ABCDe\x00\x00h"}, {5, "f", api.OK, "ABCDef\x00h"},
		{-1, "x", api.ErrRange, "ABCDef\x00h"}, {-1, "", api.ErrRange, "ABCDef\x00h"}, {math.MinInt, repeat("x", 1<<22+1), api.ErrRange, "ABCDef\x00h"},
		{math.MaxInt, "", api.OK, "ABCDef\x00h"}, {1 << 22, "", api.OK, "ABCDef\x00h"},
		{1 << 22, "x", api.ErrLong, "ABCDef\x00h"}, {math.MaxInt, "x", api.ErrLong, "ABCDef\x00h"}, {1<<22 - 1, "xy", api.ErrLong, "ABCDef\x00h"}, {0, repeat("x", 1<<22+1), api.ErrLong, "ABCDef\x00h"},
		{1<<22 - 1, "x", api.ErrSpace, "ABCDef\x00h"}, {0, repeat("x", 1<<22), api.ErrSpace, "ABCDef\x00h"},
		{0, repeat("x", 13), api.ErrSpace, "ABCDef\x00h"}, {12, "x", api.ErrSpace, "ABCDef\x00h"}, {8, "54321", api.ErrSpace, "ABCDef\x00h"}, {7, "H54321", api.ErrSpace, "ABCDef\x00h"},
		{7, "H4321", api.OK, "ABCDef\x00H4321"}, {12, "", api.OK, "ABCDef\x00H4321"}, {12, "x", api.ErrSpace, "ABCDef\x00H4321"},
		{0, "abcdefgh1234", api.OK, "abcdefgh1234"}, {11, "5", api.OK, "abcdefgh1235"},
	} {
		if e := d.Write(id, x.at, x.s); e != x.e {
			t.Errorf("row %d: told %d, want %d", i, e, x.e)
		}
		wantData(t, d, id, x.want)
		wantTaken(t, d, 8+len(x.want), 3)
	}
	wantInfo(t, d, id, Info{Kind: File, Mode: 0o644, Holds: 1, Size: 12})
}

func TestWriteOfTheLongest(t *testing.T) {
	d := newDisk(t, 1<<22)
	id := made(t, d, File, "")
	wantErrno(t, "Write", d.Write(id, 1<<22-1, "z"), api.OK)
	wantData(t, d, id, repeat("\x00", 1<<22-1)+"z")
	wantErrno(t, "Write", d.Write(id, 1<<22-1, "zz"), api.ErrLong)
	wantErrno(t, "Write", d.Write(id, 0, repeat("y", 1<<22)), api.OK)
	wantData(t, d, id, repeat("y", 1<<22))
	wantTaken(t, d, 1<<22, 2)
}

func TestWriteAndEmptyOfLinks(t *testing.T) {
	d := newDisk(t, 3)
	id := made(t, d, Symlink, "to")
	wantErrno(t, "Write", d.Write(id, 0, "a"), api.ErrKind)
	wantErrno(t, "Write", d.Write(id, 0, ""), api.ErrKind)
	wantErrno(t, "Write", d.Write(id, -1, "a"), api.ErrKind)
	wantErrno(t, "Write", d.Write(id, 1<<22, "a"), api.ErrKind)
	wantErrno(t, "Empty", d.Empty(id), api.ErrKind)
	wantData(t, d, id, "to")
	wantTaken(t, d, 2, 2)
}

func TestEmpty(t *testing.T) {
	d := newDisk(t, 6)
	id := made(t, d, File, "abcdef")
	wantErrno(t, "Empty", d.Empty(id), api.OK)
	wantData(t, d, id, "")
	wantTaken(t, d, 0, 2)
	wantErrno(t, "Empty", d.Empty(id), api.OK)
	// What was there before doesn't shine through.
	wantErrno(t, "Write", d.Write(id, 5, "z"), api.OK)
	wantData(t, d, id, "\x00\x00\x00\x00\x00z")
	wantTaken(t, d, 6, 2)
}

func TestManySmallWrites(t *testing.T) {
	d := newDisk(t, 1<<22)
	id := made(t, d, File, "")
	for at := range 1 << 18 {
		if e := d.Write(id, at, string(rune('a'+at%26))); e != api.OK {
			t.Fatal(at, e)
		}
	}
	s, e := d.Data(id)
	if e != api.OK || len(s) != 1<<18 || s[:27] != "abcdefghijklmnopqrstuvwxyza" || d.Used() != 1<<18 {
		t.Error(e, len(s), d.Used())
	}
}

func TestWhatIsToldStays(t *testing.T) {
	d := newDisk(t, 100)
	id := entered(t, d, Root, "x", File, "abcdef")
	whole, _ := d.Data(id)
	part, _ := d.Read(id, 1, 3)
	list, _ := d.List(Root)
	d.Write(id, 0, "ABCDEF")
	entered(t, d, Root, "w", File, "")
	if whole != "abcdef" || part != "bcd" || !slices.Equal(list, []dir.Entry{{Name: "x", Node: id}}) {
		t.Errorf("what was told is now %q %q %#v", whole, part, list)
	}
	list, _ = d.List(Root)
	list[0] = dir.Entry{Name: "zz", Node: 99}
	_ = append(list[:1], dir.Entry{Name: "yy", Node: 98})
	want := []dir.Entry{{Name: "w", Node: id + 1}, {Name: "x", Node: id}}
	if again, e := d.List(Root); !slices.Equal(again, want) || e != api.OK {
		t.Errorf("the root has %#v %d", again, e)
	}
}

func TestWhatIsHandedInIsNotKept(t *testing.T) {
	d := newDisk(t, 100)
	text := "abc"
	a, b := made(t, d, File, text), made(t, d, File, text)
	d.Write(a, 0, "X")
	wantData(t, d, a, "Xbc")
	wantData(t, d, b, "abc")
	if text != "abc" {
		t.Error(text)
	}
}

// P4.4

func TestWhatIsNoFolder(t *testing.T) {
	d := newDisk(t, 10)
	for _, id := range []int{made(t, d, File, ""), made(t, d, Symlink, "/")} {
		wantLook(t, d, id, "x", 0, api.ErrNotDir)
		if l, e := d.List(id); l != nil || e != api.ErrNotDir {
			t.Errorf("List told %#v %d", l, e)
		}
		if up, e := d.Up(id); up != 0 || e != api.ErrNotDir {
			t.Errorf("Up told %d %d", up, e)
		}
		wantErrno(t, "Enter", d.Enter(id, "", 99), api.ErrNotDir)
		wantErrno(t, "Enter", d.Enter(id, "x", id), api.ErrNotDir)
		wantErrno(t, "Leave", d.Leave(id, "x"), api.ErrNotDir)
		wantErrno(t, "Move", d.Move(id, "x", 99, ""), api.ErrNotDir)
	}
}

func TestLookAndList(t *testing.T) {
	d := newDisk(t, 100)
	b := entered(t, d, Root, "b", File, "")
	a := entered(t, d, Root, "a", Folder, "")
	big := entered(t, d, Root, "B", Symlink, "a")
	in := entered(t, d, a, "in", File, "")
	wantLook(t, d, Root, "a", a, api.OK)
	wantLook(t, d, Root, "b", b, api.OK)
	wantLook(t, d, Root, "B", big, api.OK)
	wantLook(t, d, a, "in", in, api.OK)
	for _, name := range []string{"", ".", "..", "/", "a/", "a/in", "in", "A", "aa", "a\x00", repeat("a", 256)} {
		wantLook(t, d, Root, name, 0, api.ErrNone)
	}
	want := []dir.Entry{{Name: "B", Node: big}, {Name: "a", Node: a}, {Name: "b", Node: b}}
	if l, e := d.List(Root); !slices.Equal(l, want) || e != api.OK {
		t.Errorf("List told %#v %d", l, e)
	}
	wantInfo(t, d, Root, Info{Kind: Folder, Mode: 0o755, Links: 1, Size: 3})
	wantUp(t, d, a, Root)
}

func TestEnterTellsTheFirstError(t *testing.T) {
	d := newDisk(t, 301)
	file := entered(t, d, Root, "f", File, "")
	folder := entered(t, d, Root, "d", Folder, "")
	link := entered(t, d, Root, "l", Symlink, "f")
	free := made(t, d, Folder, "")
	made(t, d, File, repeat("x", 40))
	long := repeat("n", 255)
	for i, x := range []struct {
		id   int
		name string
		k    int
		e    api.Errno
	}{
		{99, "", 99, api.ErrNone}, {file, "", 99, api.ErrNotDir}, {link, "d", free, api.ErrNotDir},
		{Root, "", 99, api.ErrNone}, {Root, "x", 0, api.ErrNone}, {Root, "x", -1, api.ErrNone},
		{Root, "x", folder, api.ErrLinks}, {folder, "x", folder, api.ErrLinks}, {Root, "x", Root, api.ErrLinks}, {folder, "", Root, api.ErrLinks}, {Root, long + "n", folder, api.ErrLinks}, {Root, "f", folder, api.ErrLinks},
		{Root, long + "n", file, api.ErrLong}, {Root, repeat("/", 256), file, api.ErrLong},
		{Root, "", file, api.ErrForm}, {Root, ".", file, api.ErrForm}, {Root, "..", free, api.ErrForm}, {Root, "a/b", file, api.ErrForm}, {Root, "a\x00", file, api.ErrForm}, {Root, "x/", file, api.ErrForm}, {Root, "/" + long[1:], file, api.ErrForm},
		{Root, "f", file, api.ErrExist}, {Root, "d", file, api.ErrExist}, {Root, "l", free, api.ErrExist},
		{folder, long, file, api.OK}, {folder, long, file, api.ErrExist}, {Root, long, file, api.ErrSpace}, {Root, "abc", link, api.ErrSpace}, {folder, "abc", free, api.ErrSpace},
		{folder, "ab", free, api.OK}, {folder, "abc", free, api.ErrLinks}, {folder, "y", link, api.ErrSpace}, {folder, "ab", link, api.ErrExist}, {folder, "", link, api.ErrForm},
	} {
		used := d.Used()
		before, _ := d.Info(x.k)
		if e := d.Enter(x.id, x.name, x.k); e != x.e {
			t.Errorf("row %d: Enter(%d, %.20q, %d) told %d, want %d", i, x.id, x.name, x.k, e, x.e)
		}
		if x.e == api.OK {
			used += len(x.name)
			before.Links++
			wantLook(t, d, x.id, x.name, x.k, api.OK)
		}
		if after, _ := d.Info(x.k); after != before || d.Used() != used {
			t.Errorf("row %d: %+v and %d bytes, want %+v and %d", i, after, d.Used(), before, used)
		}
	}
	wantLook(t, d, Root, "abc", 0, api.ErrNone)
	wantUp(t, d, free, folder)
	if d.Used() != 301 {
		t.Error(d.Used())
	}
}

func TestMostLinks(t *testing.T) {
	d := newDisk(t, 1<<20)
	id := made(t, d, File, "")
	for i := range 1 << 15 {
		if e := d.Enter(Root, fmt.Sprintf("%05d", i), id); e != api.OK {
			t.Fatal(i, e)
		}
	}
	wantInfo(t, d, id, Info{Kind: File, Mode: 0o644, Links: 1 << 15, Holds: 1})
	wantErrno(t, "Enter", d.Enter(Root, "x", id), api.ErrMany)
	wantErrno(t, "Enter", d.Enter(Root, repeat("x", 256), id), api.ErrMany)
	wantErrno(t, "Enter", d.Enter(Root, "", id), api.ErrMany)
	wantErrno(t, "Enter", d.Enter(Root, "00000", id), api.ErrMany)
	wantErrno(t, "Enter", d.Enter(id, "x", id), api.ErrNotDir)
	// A move needs no link more.
	wantErrno(t, "Move", d.Move(Root, "00000", Root, "x"), api.OK)
	wantErrno(t, "Leave", d.Leave(Root, "x"), api.OK)
	wantErrno(t, "Enter", d.Enter(Root, "y", id), api.OK)
	wantErrno(t, "Enter", d.Enter(Root, "z", id), api.ErrMany)
	wantTaken(t, d, 5*(1<<15-1)+1, 2)
}

func TestLeave(t *testing.T) {
	d := newDisk(t, 100)
	a := entered(t, d, Root, "a", Folder, "")
	x := entered(t, d, a, "x", File, "12")
	wantErrno(t, "Enter", d.Enter(Root, "xx", x), api.OK)
	link := entered(t, d, a, "l", Symlink, "x")
	for _, name := range []string{"", ".", "..", "b", "a/x", "x", "aa", repeat("a", 256), "a\x00"} {
		wantErrno(t, "Leave of "+fmt.Sprintf("%.10q", name), d.Leave(Root, name), api.ErrNone)
	}
	wantErrno(t, "Leave", d.Leave(Root, "a"), api.ErrNotEmpty)
	wantTaken(t, d, 1+1+2+2+1+1, 4)
	wantErrno(t, "Leave", d.Leave(a, "x"), api.OK)
	wantData(t, d, x, "12")
	wantInfo(t, d, x, Info{Kind: File, Mode: 0o644, Links: 1, Size: 2})
	wantErrno(t, "Leave", d.Leave(Root, "a"), api.ErrNotEmpty)
	wantErrno(t, "Leave", d.Leave(a, "l"), api.OK)
	wantGone(t, d, link)
	wantErrno(t, "Leave", d.Leave(Root, "a"), api.OK)
	wantGone(t, d, a)
	wantErrno(t, "Leave", d.Leave(Root, "a"), api.ErrNone)
	wantTaken(t, d, 4, 2)
	wantErrno(t, "Leave", d.Leave(Root, "xx"), api.OK)
	wantGone(t, d, x)
	wantTaken(t, d, 0, 1)
}

func TestUp(t *testing.T) {
	d := newDisk(t, 100)
	a := entered(t, d, Root, "a", Folder, "")
	b := entered(t, d, a, "b", Folder, "")
	c := made(t, d, Folder, "")
	inC := entered(t, d, c, "in", Folder, "")
	wantUp(t, d, Root, Root)
	wantUp(t, d, a, Root)
	wantUp(t, d, b, a)
	wantUp(t, d, inC, c)
	wantErrno(t, "Enter", d.Enter(b, "c", c), api.OK)
	wantUp(t, d, c, b)
	wantErrno(t, "Move", d.Move(b, "c", a, "c"), api.OK)
	wantUp(t, d, c, a)
	wantErrno(t, "Move", d.Move(a, "c", a, "cc"), api.OK)
	wantUp(t, d, c, a)
	wantUp(t, d, inC, c)
}

// P4.5

// moving is a disk with a bit of everything, in the room that it takes and so much more.
func moving(t *testing.T, more int) (*Disk, *model, map[string]int) {
	t.Helper()
	const taken = 29
	d, m := newDisk(t, taken+more), newModel(taken+more)
	ids := map[string]int{"root": Root}
	add := func(folder, name string, kind int, data string) {
		id, _ := m.make(kind, 0o644, data)
		m.enter(ids[folder], name, id)
		m.release(id)
		ids[name] = entered(t, d, ids[folder], name, kind, data)
	}
	add("root", "p", Folder, "")
	add("p", "q", Folder, "")
	add("q", "r", Folder, "")
	add("root", "hollow", Folder, "")
	add("p", "file", File, "abc")
	add("root", "g", File, "de")
	add("root", "link", Symlink, "p")
	m.enter(Root, "alias", ids["file"])
	wantErrno(t, "Enter", d.Enter(Root, "alias", ids["file"]), api.OK)
	agree(t, "at first", d, m)
	if d.Used() != taken {
		t.Fatal(d.Used())
	}
	return d, m, ids
}

func TestMove(t *testing.T) {
	long := repeat("n", 255)
	for i, x := range []struct {
		more            int
		from, name      string
		to, other       string
		e               api.Errno
		replaced, moved string
	}{
		// what isn't there, or is no directory
		{9, "none", "p", "none", "x", api.ErrNone, "", ""}, {9, "g", "p", "none", "x", api.ErrNotDir, "", ""}, {9, "link", "q", "root", "x", api.ErrNotDir, "", ""},
		{9, "root", "none", "none", "", api.ErrNone, "", ""}, {9, "root", "none", "g", "", api.ErrNone, "", ""}, {9, "root", "", "root", "x", api.ErrNone, "", ""}, {9, "root", "..", "root", "x", api.ErrNone, "", ""}, {9, "root", "p/q", "root", "x", api.ErrNone, "", ""},
		{9, "root", "p", "none", "", api.ErrNone, "", ""}, {9, "root", "p", "g", "", api.ErrNotDir, "", ""}, {9, "root", "p", "link", "x", api.ErrNotDir, "", ""}, {9, "root", "g", "file", "x", api.ErrNotDir, "", ""},
		// into itself, or below
		{9, "root", "p", "p", "x", api.ErrBusy, "", ""}, {9, "root", "p", "q", "x", api.ErrBusy, "", ""}, {9, "root", "p", "r", "x", api.ErrBusy, "", ""}, {9, "p", "q", "r", "", api.ErrBusy, "", ""}, {9, "root", "p", "p", "q", api.ErrBusy, "", ""}, {9, "root", "p", "p", "file", api.ErrBusy, "", ""}, {0, "root", "p", "r", long, api.ErrBusy, "", ""}, {9, "root", "hollow", "hollow", "hollow", api.ErrBusy, "", ""},
		// to the same
		{0, "root", "p", "root", "p", api.OK, "", ""}, {0, "p", "file", "root", "alias", api.OK, "", ""}, {0, "root", "alias", "p", "file", api.OK, "", ""}, {0, "root", "link", "root", "link", api.OK, "", ""}, {0, "p", "q", "p", "q", api.OK, "", ""},
		// in place of others
		{0, "root", "p", "root", "g", api.ErrNotDir, "", ""}, {0, "p", "q", "root", "link", api.ErrNotDir, "", ""}, {0, "root", "hollow", "p", "file", api.ErrNotDir, "", ""},
		{0, "root", "g", "root", "hollow", api.ErrIsDir, "", ""}, {0, "root", "link", "root", "p", api.ErrIsDir, "", ""}, {0, "p", "file", "p", "q", api.ErrIsDir, "", ""},
		{0, "root", "hollow", "p", "q", api.ErrNotEmpty, "", ""}, {0, "q", "r", "root", "p", api.ErrNotEmpty, "", ""}, {0, "p", "q", "root", "p", api.ErrNotEmpty, "", ""},
		{0, "root", "g", "root", "link", api.OK, "link", "g"}, {0, "root", "link", "root", "g", api.OK, "g", "link"}, {0, "root", "g", "p", "file", api.OK, "", "g"}, {0, "p", "file", "root", "g", api.OK, "g", "file"}, {0, "root", "hollow", "q", "r", api.OK, "r", "hollow"}, {0, "p", "q", "root", "hollow", api.OK, "hollow", "q"}, {0, "root", "p", "root", "hollow", api.OK, "hollow", "p"},
		// to what isn't there
		{999, "root", "p", "hollow", long + "n", api.ErrLong, "", ""}, {0, "root", "p", "hollow", long + "n", api.ErrLong, "", ""}, {0, "root", "g", "p", "", api.ErrForm, "", ""}, {0, "root", "g", "p", ".", api.ErrForm, "", ""}, {0, "root", "g", "p", "..", api.ErrForm, "", ""}, {0, "root", "g", "p", "a/bc", api.ErrForm, "", ""}, {0, "root", "g", "p", "a\x00bc", api.ErrForm, "", ""},
		{0, "root", "g", "p", "gg", api.ErrSpace, "", ""}, {1, "root", "g", "p", "ggg", api.ErrSpace, "", ""}, {253, "root", "g", "p", long, api.ErrSpace, "", ""}, {254, "root", "g", "p", long, api.OK, "", "g"}, {1, "root", "g", "p", "gg", api.OK, "", "g"}, {0, "root", "g", "p", "h", api.OK, "", "g"}, {0, "root", "g", "root", "h", api.OK, "", "g"},
		{0, "root", "hollow", "root", "hole", api.OK, "", "hollow"}, {0, "root", "hollow", "r", "6bytes", api.OK, "", "hollow"}, {0, "root", "hollow", "r", "7 bytes", api.ErrSpace, "", ""}, {0, "p", "q", "root", "q", api.OK, "", "q"}, {0, "q", "r", "root", "s", api.OK, "", "r"}, {9, "root", "p", "hollow", "deep", api.OK, "", "p"}, {9, "root", "link", "r", "l", api.OK, "", "link"},
	} {
		d, m, ids := moving(t, x.more)
		what := fmt.Sprintf("row %d: Move(%s, %.10q, %s, %.10q)", i, x.from, x.name, x.to, x.other)
		wantErrno(t, what, d.Move(ids[x.from], x.name, ids[x.to], x.other), x.e)
		wantErrno(t, what+" of the model", m.move(ids[x.from], x.name, ids[x.to], x.other), x.e)
		agree(t, what, d, m)
		if x.replaced != "" {
			wantGone(t, d, ids[x.replaced])
		}
		if x.moved != "" {
			wantLook(t, d, ids[x.from], x.name, 0, api.ErrNone)
			wantLook(t, d, ids[x.to], x.other, ids[x.moved], api.OK)
		}
	}
}

func TestMoveInPlaceOfWhatIsHeld(t *testing.T) {
	d := newDisk(t, 20)
	a, b := entered(t, d, Root, "a", File, "123"), entered(t, d, Root, "b", File, "4567")
	d.Hold(b)
	wantErrno(t, "Move", d.Move(Root, "a", Root, "b"), api.OK)
	wantInfo(t, d, b, Info{Kind: File, Mode: 0o644, Holds: 1, Size: 4})
	wantLook(t, d, Root, "b", a, api.OK)
	wantTaken(t, d, 3+4+1, 3)
	d.Release(b)
	wantGone(t, d, b)
	wantTaken(t, d, 3+1, 2)
}

func TestMoveAmongFoldersThatNoEntryNames(t *testing.T) {
	d := newDisk(t, 100)
	a, b := made(t, d, Folder, ""), made(t, d, Folder, "")
	in := entered(t, d, a, "in", Folder, "")
	wantErrno(t, "Move", d.Move(a, "in", in, "x"), api.ErrBusy)
	wantErrno(t, "Move", d.Move(a, "in", b, "in"), api.OK)
	wantUp(t, d, in, b)
	wantErrno(t, "Move", d.Move(b, "in", Root, "in"), api.OK)
	wantUp(t, d, in, Root)
	wantErrno(t, "Move", d.Move(Root, "in", a, "in"), api.OK)
	wantUp(t, d, in, a)
	d.Release(a)
	wantGone(t, d, a, in)
	wantTaken(t, d, 0, 2)
}

func TestMoveDeep(t *testing.T) {
	d := newDisk(t, 1<<20)
	top := entered(t, d, Root, "t", Folder, "")
	at := top
	for d.Count() < api.MaxNodes-1 {
		at = entered(t, d, at, "d", Folder, "")
	}
	other := entered(t, d, Root, "o", Folder, "")
	wantErrno(t, "Move", d.Move(Root, "t", at, "x"), api.ErrBusy)
	wantErrno(t, "Move", d.Move(Root, "o", at, "x"), api.OK)
	wantUp(t, d, other, at)
	wantErrno(t, "Move", d.Move(Root, "t", other, "x"), api.ErrBusy)
	wantErrno(t, "Move", d.Move(top, "d", other, "x"), api.ErrBusy)
}

// P1

func TestAFolderWithinItselfLetsAllCallsEnd(t *testing.T) {
	d := newDisk(t, 100)
	a := made(t, d, Folder, "")
	b := entered(t, d, Root, "b", Folder, "")
	wantErrno(t, "Enter", d.Enter(a, "self", a), api.OK)
	wantUp(t, d, a, a)
	wantErrno(t, "Enter", d.Enter(Root, "a", a), api.ErrLinks)
	wantErrno(t, "Leave", d.Leave(a, "self"), api.ErrNotEmpty)
	wantErrno(t, "Move", d.Move(a, "self", a, "other"), api.ErrBusy)
	wantErrno(t, "Move", d.Move(Root, "b", a, "b"), api.OK)
	wantUp(t, d, b, a)
	wantErrno(t, "Release", d.Release(a), api.OK)
	wantErrno(t, "Move", d.Move(a, "self", Root, "a"), api.OK)
	wantUp(t, d, a, Root)
	wantTaken(t, d, 2, 3)
}

func TestFoldersWithinOneAnotherLetAllCallsEnd(t *testing.T) {
	d := newDisk(t, 100)
	a, b := made(t, d, Folder, ""), made(t, d, Folder, "")
	c := entered(t, d, Root, "c", Folder, "")
	d.Enter(a, "b", b)
	d.Enter(b, "a", a)
	d.Move(Root, "c", a, "c")
	d.Move(a, "c", b, "c")
	d.Move(a, "b", Root, "b")
	for _, id := range []int{a, b, c} {
		d.Release(id)
		d.Up(id)
		d.Leave(id, "a")
		d.Leave(id, "b")
	}
}

// numbers are the same ones in each run, each below what is asked for.
func numbers(seed uint64) func(below int) int {
	state := seed
	return func(below int) int {
		state = state*6364136223846793005 + 1442695040888963407
		return int(state >> 33 % uint64(below))
	}
}

// life is a disk and its model, to which the same is done.
type life struct {
	d    *Disk
	m    *model
	next func(int) int
}

func (l *life) pick(texts ...string) string { return texts[l.next(len(texts))] }

func (l *life) name() string {
	if l.next(8) > 0 {
		return l.pick("a", "b", "c", "dd")
	}
	return l.pick("eee", "ffff", "", ".", "..", "a/b", "x\x00", repeat("a", 255), repeat("a", 256))
}

func (l *life) text() string {
	return l.pick("", "x", "yz", "uvw", "\x00\xff", repeat("t", 9), repeat("t", 30))
}

func (l *life) id() int {
	living := []int{}
	for id, x := range l.m.things {
		living = append(living, id)
		// Folders oftener: most calls ask for one.
		if x.kind == Folder {
			living = append(living, id, id)
		}
	}
	slices.Sort(living)
	if l.next(12) == 0 {
		return l.next(l.m.last+3) - 1
	}
	return living[l.next(len(living))]
}

func (l *life) step() (string, api.Errno, api.Errno) {
	id, k, name, other, text, n := l.id(), l.id(), l.name(), l.name(), l.text(), l.next(16)-2
	what := fmt.Sprintf("%d %d %.10q %.10q %.10q %d", id, k, name, other, text, n)
	switch l.next(16) {
	case 0, 1:
		kind := l.next(5)
		if kind == Folder && l.next(10) > 0 {
			text = ""
		}
		bits := l.next(0o10100) - 10
		a, e := l.d.Make(kind, bits, text)
		b, we := l.m.make(kind, bits, text)
		if a != b {
			return "Make that told another number: " + what, e, we
		}
		return "Make: " + what, e, we
	case 2:
		return "Hold: " + what, l.d.Hold(id), l.m.hold(id)
	case 3:
		return "Release: " + what, l.d.Release(id), l.m.release(id)
	case 4:
		bits := l.next(0o10100) - 10
		return "Chmod: " + what, l.d.Chmod(id, bits), l.m.chmod(id, bits)
	case 5:
		return "Write: " + what, l.d.Write(id, n, text), l.m.write(id, n, text)
	case 6:
		return l.tell(what, id, name, n)
	case 7, 8, 9, 10:
		x := l.m.things[k]
		if x != nil && x.kind == Folder && (id == k || l.m.below(id, k)) && l.m.links(k) == 0 {
			return "left out: " + what, api.OK, api.OK
		}
		return "Enter: " + what, l.d.Enter(id, name, k), l.m.enter(id, name, k)
	case 11, 12:
		if l.next(4) == 0 {
			return "Empty: " + what, l.d.Empty(id), l.m.empty(id)
		}
		return "Leave: " + what, l.d.Leave(id, name), l.m.leave(id, name)
	}
	return "Move: " + what, l.d.Move(id, name, k, other), l.m.move(id, name, k, other)
}

func (l *life) tell(what string, id int, name string, n int) (string, api.Errno, api.Errno) {
	if l.next(2) == 0 {
		k, e := l.d.Look(id, name)
		wk, we := l.m.look(id, name)
		if k != wk {
			return "Look that told another node: " + what, e, we
		}
		return "Look: " + what, e, we
	}
	most := l.next(12) - 2
	s, e := l.d.Read(id, n, most)
	ws, we := l.m.read(id, n, most)
	if s != ws {
		return "Read that told other bytes: " + what, e, we
	}
	return "Read: " + what, e, we
}

func TestLongLivesAgainstTheModel(t *testing.T) {
	seen := map[string]int{}
	for seed := range 60 {
		room := []int{0, 5, 30, 80, 400, 3000}[seed%6]
		l := &life{d: newDisk(t, room), m: newModel(room), next: numbers(uint64(seed))}
		for range 800 {
			what, e, want := l.step()
			if e != want || strings.Contains(what, "that told another") || strings.Contains(what, "that told other") {
				t.Fatalf("seed %d: %s: told %d, want %d", seed, what, e, want)
			}
			seen[fmt.Sprint(strings.SplitN(what, ":", 2)[0], " ", e)]++
			agree(t, fmt.Sprintf("seed %d: behind %s", seed, what), l.d, l.m)
		}
	}
	wantSeen(t, seen)
}

// wantSeen: lives that never met an error would say nothing of it.
func wantSeen(t *testing.T, seen map[string]int) {
	t.Helper()
	for call, errors := range map[string][]api.Errno{
		"Make":    {api.OK, api.ErrKind, api.ErrRange, api.ErrSpace},
		"Hold":    {api.OK, api.ErrNone},
		"Release": {api.OK, api.ErrNone},
		"Chmod":   {api.OK, api.ErrNone, api.ErrRange},
		"Read":    {api.OK, api.ErrNone, api.ErrIsDir, api.ErrRange},
		"Write":   {api.OK, api.ErrNone, api.ErrIsDir, api.ErrKind, api.ErrRange, api.ErrSpace},
		"Empty":   {api.OK, api.ErrNone, api.ErrIsDir, api.ErrKind},
		"Look":    {api.OK, api.ErrNone, api.ErrNotDir},
		"Enter":   {api.OK, api.ErrNone, api.ErrNotDir, api.ErrLinks, api.ErrLong, api.ErrForm, api.ErrExist, api.ErrSpace},
		"Leave":   {api.OK, api.ErrNone, api.ErrNotDir, api.ErrNotEmpty},
		"Move":    {api.OK, api.ErrNone, api.ErrNotDir, api.ErrBusy, api.ErrIsDir, api.ErrNotEmpty, api.ErrLong, api.ErrForm, api.ErrSpace},
	} {
		for _, e := range errors {
			if seen[fmt.Sprint(call, " ", e)] == 0 {
				t.Errorf("no %s told %d", call, e)
			}
		}
	}
}

func TestDisksAreApart(t *testing.T) {
	a, b := newDisk(t, 10), newDisk(t, 10)
	entered(t, a, Root, "x", File, "abc")
	wantTaken(t, b, 0, 1)
	wantLook(t, b, Root, "x", 0, api.ErrNone)
	if id := made(t, b, File, ""); id != 2 {
		t.Error(id)
	}
}
