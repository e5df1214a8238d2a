package fd

import (
	"fmt"
	"math"
	"slices"
	"strings"
	"testing"

	"seabag/api"
	"seabag/disk"
	"seabag/files"
)

func repeat(s string, n int) string { return strings.Repeat(s, n) }

// atRoot is a user at the root, with no mask.
var atRoot = files.Who{At: disk.Root}

func begin(t *testing.T, room, fail int) *files.Files {
	t.Helper()
	f, e := files.Begin(room, fail)
	if f == nil || e != api.OK {
		t.Fatalf("Begin(%d, %d) told %v %d", room, fail, f, e)
	}
	return f
}

// table is a table of files with room for much, of which no call fails.
func table(t *testing.T) (*Table, *files.Files) {
	t.Helper()
	f := begin(t, 1<<24, -1)
	return New(f), f
}

func ok(t *testing.T, what string, e api.Errno) {
	t.Helper()
	if e != api.OK {
		t.Fatalf("%s told %d", what, e)
	}
}

func wantErrno(t *testing.T, what string, got, want api.Errno) {
	t.Helper()
	if got != want {
		t.Errorf("%s told %d, want %d", what, got, want)
	}
}

// write makes a file with bytes and a mode.
func write(t *testing.T, f *files.Files, s, data string, m int) {
	t.Helper()
	id, e := f.Open(atRoot, s, files.Write|files.Create|files.Empty, 0o600)
	ok(t, "Open of "+s, e)
	ok(t, "Write of "+s, f.Write(id, 0, data))
	ok(t, "Close of "+s, f.Close(id))
	ok(t, "Chmod of "+s, f.Chmod(atRoot, s, m))
}

func open(t *testing.T, x *Table, n int, s string, flags int) {
	t.Helper()
	ok(t, fmt.Sprint("Open of ", s, " at ", n), x.Open(n, atRoot, s, flags, 0o666))
}

func lay(t *testing.T, x *Table, n int, p *Pipe, flags int) {
	t.Helper()
	ok(t, fmt.Sprint("Lay at ", n), x.Lay(n, p, flags))
}

func dup(t *testing.T, x *Table, from, to int) {
	t.Helper()
	ok(t, fmt.Sprint("Dup of ", from, " to ", to), x.Dup(from, to))
}

func put(t *testing.T, x *Table, n int, s string) {
	t.Helper()
	ok(t, fmt.Sprint("Write to ", n), x.Write(n, s))
}

func wantData(t *testing.T, f *files.Files, s, want string) {
	t.Helper()
	id, _, e := f.Stat(atRoot, s, false)
	ok(t, "Stat of "+s, e)
	if got, _ := f.Disk().Data(id); got != want {
		t.Errorf("%s has %.40q, want %.40q", s, got, want)
	}
}

func wantHolds(t *testing.T, f *files.Files, s string, want int) {
	t.Helper()
	_, info, e := f.Stat(atRoot, s, false)
	ok(t, "Stat of "+s, e)
	if info.Holds != want {
		t.Errorf("%s is held %d times, want %d", s, info.Holds, want)
	}
}

func wantNumbers(t *testing.T, x *Table, want ...int) {
	t.Helper()
	if got := x.Numbers(); !slices.Equal(got, want) {
		t.Errorf("the numbers are %v, want %v", got, want)
	}
	for n := -2; n < api.MaxFds+2; n++ {
		if x.Has(n) != slices.Contains(want, n) {
			t.Errorf("Has(%d) told %v, where the numbers are %v", n, x.Has(n), want)
		}
	}
}

func wantRead(t *testing.T, x *Table, n, most int, want string) {
	t.Helper()
	if got, e := x.Read(n, most); got != want || e != api.OK {
		t.Errorf("Read(%d, %d) told %.40q %d, want %.40q", n, most, got, e, want)
	}
}

func wantNoRead(t *testing.T, x *Table, n, most int, want api.Errno) {
	t.Helper()
	if got, e := x.Read(n, most); got != "" || e != want {
		t.Errorf("Read(%d, %d) told %.40q %d, want the error %d", n, most, got, e, want)
	}
}

func wantLeft(t *testing.T, p *Pipe, want string) {
	t.Helper()
	if got := p.Left(); got != want {
		t.Errorf("%.40q is left, want %.40q", got, want)
	}
}

// P7.1

func TestPipeHasBytes(t *testing.T) {
	for _, s := range []string{"", "a", "abc\n", "\x00\xff\n\x80", repeat("z", api.MaxFile)} {
		p := NewPipe(s)
		wantLeft(t, p, s)
		wantLeft(t, p, s)
		if got := p.Read(len(s)); got != s {
			t.Errorf("of %.40q Read told %.40q", s, got)
		}
		wantLeft(t, p, "")
	}
}

func TestPipeRead(t *testing.T) {
	for _, x := range []struct {
		most        int
		told, stays string
	}{
		{math.MinInt, "", "abcde"},
		{-1, "", "abcde"},
		{0, "", "abcde"},
		{1, "a", "bcde"},
		{4, "abcd", "e"},
		{5, "abcde", ""},
		{6, "abcde", ""},
		{math.MaxInt, "abcde", ""},
	} {
		p := NewPipe("abcde")
		if got := p.Read(x.most); got != x.told {
			t.Errorf("Read(%d) told %q, want %q", x.most, got, x.told)
		}
		wantLeft(t, p, x.stays)
	}
	if got := NewPipe("").Read(3); got != "" {
		t.Errorf("Read of an empty pipe told %q", got)
	}
}

func TestPipeWrite(t *testing.T) {
	p := NewPipe("ab")
	ok(t, "Write", p.Write("cd"))
	ok(t, "Write", p.Write(""))
	wantLeft(t, p, "abcd")
	if got := p.Read(3); got != "abc" {
		t.Errorf("Read told %q", got)
	}
	ok(t, "Write", p.Write("\x00e"))
	wantLeft(t, p, "d\x00e")
	if got := p.Read(9); got != "d\x00e" {
		t.Errorf("Read told %q", got)
	}
	ok(t, "Write", p.Write("f"))
	wantLeft(t, p, "f")
}

func TestPipeAtItsLimit(t *testing.T) {
	p := NewPipe(repeat("a", api.MaxFile-1))
	wantErrno(t, "Write of two bytes", p.Write("bc"), api.ErrLong)
	wantLeft(t, p, repeat("a", api.MaxFile-1))
	ok(t, "Write of one byte", p.Write("b"))
	ok(t, "Write of none", p.Write(""))
	wantErrno(t, "Write of one byte more", p.Write("c"), api.ErrLong)
	wantLeft(t, p, repeat("a", api.MaxFile-1)+"b")
	// What was read counts no more.
	p.Read(api.MaxFile - 1)
	wantErrno(t, "Write of as many", p.Write(repeat("c", api.MaxFile)), api.ErrLong)
	ok(t, "Write of one less", p.Write(repeat("c", api.MaxFile-1)))
	wantLeft(t, p, "b"+repeat("c", api.MaxFile-1))
	wantErrno(t, "Write of many to an empty one", NewPipe("").Write(repeat("d", api.MaxFile+1)), api.ErrLong)
}

func TestLongPipe(t *testing.T) {
	s := repeat("a", api.MaxFile) + "bc"
	p := NewPipe(s)
	wantLeft(t, p, s)
	wantErrno(t, "Write", p.Write("d"), api.ErrLong)
	wantErrno(t, "Write of nothing", p.Write(""), api.ErrLong)
	p.Read(3)
	ok(t, "Write", p.Write("d"))
	wantLeft(t, p, s[3:]+"d")
}

func TestWhatAPipeToldStays(t *testing.T) {
	p := NewPipe("abcdef")
	first := p.Read(3)
	p.Write("ghi")
	left := p.Left()
	p.Read(6)
	for range 50 {
		p.Write("#########")
		p.Read(4)
	}
	if first != "abc" || left != "defghi" {
		t.Errorf("what was told became %q and %q", first, left)
	}
}

func TestManySmallWrites(t *testing.T) {
	p := NewPipe("")
	for range 1 << 21 {
		p.Write("ab")
		p.Read(1)
	}
	if n := len(p.Left()); n != 1<<21 {
		t.Errorf("%d bytes are left", n)
	}
}

// P7.2

func TestNew(t *testing.T) {
	x, f := table(t)
	wantNumbers(t, x)
	for n := -1; n <= api.MaxFds; n++ {
		wantErrno(t, "Close", x.Close(n), api.ErrFd)
		wantErrno(t, "Dup", x.Dup(n, n), api.ErrFd)
		wantErrno(t, "Write", x.Write(n, "a"), api.ErrFd)
		wantNoRead(t, x, n, 1, api.ErrFd)
	}
	if f.Calls() != 0 || f.Disk().Count() != 1 {
		t.Errorf("there were %d calls, and are %d nodes", f.Calls(), f.Disk().Count())
	}
}

func TestNumbersRise(t *testing.T) {
	x, f := table(t)
	write(t, f, "a", "abc", 0o600)
	for _, n := range []int{9, 63, 2, 40, 0, 11, 10} {
		if n%2 == 0 {
			open(t, x, n, "a", files.Read)
		} else {
			lay(t, x, n, NewPipe(""), files.Read)
		}
	}
	wantNumbers(t, x, 0, 2, 9, 10, 11, 40, 63)
	list := x.Numbers()
	list[0], list[1] = 5, 6
	_ = append(list[:2], 7)
	wantNumbers(t, x, 0, 2, 9, 10, 11, 40, 63)
	ok(t, "Close", x.Close(9))
	ok(t, "Close", x.Close(10))
	wantNumbers(t, x, 0, 2, 11, 40, 63)
	for n := range api.MaxFds {
		lay(t, x, n, NewPipe(""), files.Read)
	}
	if l := x.Numbers(); len(l) != api.MaxFds || !slices.IsSorted(l) || l[0] != 0 || l[63] != 63 {
		t.Errorf("all numbers are %v", l)
	}
}

func TestNoSuchNumber(t *testing.T) {
	for _, n := range []int{math.MinInt, -1, api.MaxFds, api.MaxFds + 1, 1 << 32, math.MaxInt} {
		x, f := table(t)
		write(t, f, "a", "abc", 0o600)
		lay(t, x, 3, NewPipe(""), files.Read)
		calls := f.Calls()
		// It is told ahead of all that Open would tell, and nothing is opened.
		wantErrno(t, "Open", x.Open(n, atRoot, "new", files.Write|files.Create, 0o666), api.ErrFd)
		wantErrno(t, "Open of one that is there", x.Open(n, atRoot, "a", files.Write|files.Empty, 0o666), api.ErrFd)
		wantErrno(t, "Open of none", x.Open(n, atRoot, "none", files.Read, 0), api.ErrFd)
		wantErrno(t, "Open of a wrong path", x.Open(n, atRoot, "", files.Read, 0), api.ErrFd)
		wantErrno(t, "Lay", x.Lay(n, NewPipe("a"), files.Read), api.ErrFd)
		wantErrno(t, "Dup to it", x.Dup(3, n), api.ErrFd)
		wantErrno(t, "Dup from it", x.Dup(n, 4), api.ErrFd)
		wantErrno(t, "Close", x.Close(n), api.ErrFd)
		wantNumbers(t, x, 3)
		wantHolds(t, f, "a", 0)
		wantData(t, f, "a", "abc")
		if f.Calls() != calls || f.Disk().Count() != 2 {
			t.Errorf("at %d: %d calls were counted, and there are %d nodes", n, f.Calls()-calls, f.Disk().Count())
		}
	}
	x, _ := table(t)
	for _, n := range []int{0, api.MaxFds - 1} {
		wantErrno(t, "Open", x.Open(n, atRoot, "a", files.Write|files.Create, 0o666), api.OK)
		wantErrno(t, "Lay", x.Lay(n, NewPipe(""), files.Read), api.OK)
		wantErrno(t, "Dup", x.Dup(n, api.MaxFds-1-n), api.OK)
		wantErrno(t, "Close", x.Close(n), api.OK)
	}
}

func TestOpen(t *testing.T) {
	x, f := table(t)
	w := files.Who{At: disk.Root, Mask: 0o022}
	ok(t, "Open", x.Open(4, w, "a", files.Write|files.Create, 0o666))
	wantNumbers(t, x, 4)
	wantHolds(t, f, "a", 1)
	if _, info, _ := f.Stat(w, "a", false); info.Mode != 0o644 || info.Kind != disk.File {
		t.Errorf("what is opened is %+v", info)
	}
	ok(t, "Mkdir", f.Mkdir(atRoot, "d", 0o755))
	w, e := f.Chdir(w, "d")
	ok(t, "Chdir", e)
	ok(t, "Open", x.Open(5, w, "../a", files.Read, 0))
	ok(t, "Open", x.Open(6, w, "b", files.Write|files.Create|files.New, 0o600))
	wantHolds(t, f, "a", 2)
	wantHolds(t, f, "d/b", 1)
	put(t, x, 4, "abc")
	wantRead(t, x, 5, 9, "abc")
	open(t, x, 7, "a", files.Write|files.Empty)
	wantData(t, f, "a", "")
}

func TestOpenTellsTheErrorBelow(t *testing.T) {
	// Number 11 is that of e: seven calls are made ahead, and two of each row that may change something.
	f := begin(t, 40, 11)
	write(t, f, "a", "abc", 0o600)
	write(t, f, "no", "abc", 0)
	ok(t, "Mkdir", f.Mkdir(atRoot, "d", 0o500))
	x := New(f)
	open(t, x, 1, "a", files.Read)
	wantRead(t, x, 1, 1, "a")
	for _, r := range []struct {
		s     string
		flags int
		want  api.Errno
	}{
		{"none", files.Read, api.ErrNone},
		{"", files.Read, api.ErrNone},
		{"none", files.Write | Append, api.ErrNone},
		{"a\x00", files.Read, api.ErrForm},
		{repeat("/", 4096), files.Read, api.ErrLong},
		{"a/b", files.Read, api.ErrNotDir},
		{"d", files.Read, api.ErrIsDir},
		{"no", files.Read, api.ErrDenied},
		{"no", files.Write | Append, api.ErrDenied},
		{"a", files.Write | files.Create | files.New, api.ErrExist},
		{"d/x", files.Write | files.Create, api.ErrDenied},
		{"e", files.Write | files.Create, api.ErrIO},
		{repeat("e", 33), files.Write | files.Create, api.ErrSpace},
	} {
		for _, n := range []int{1, 2} {
			if r.want == api.ErrIO && n == 2 {
				continue
			}
			wantErrno(t, fmt.Sprintf("Open of %.40q with %d", r.s, r.flags), x.Open(n, atRoot, r.s, r.flags, 0o666), r.want)
		}
		wantNumbers(t, x, 1)
		wantHolds(t, f, "a", 1)
	}
	// The number is of what it was of, at its place.
	wantRead(t, x, 1, 9, "bc")
}

func TestAppendIsNotHandedDown(t *testing.T) {
	// Below nothing is promised of a flag that it doesn't know: what is done must be as without it.
	for flags := range 32 {
		var told [2]string
		for i, more := range []int{0, Append} {
			x, f := table(t)
			write(t, f, "a", "abc", 0o600)
			calls := f.Calls()
			e := x.Open(0, atRoot, "a", flags|more, 0o600)
			b := x.Open(1, atRoot, "b", flags|more, 0o600)
			info, _ := x.Info(0)
			told[i] = fmt.Sprint(e, b, info, x.Numbers(), f.Disk().Used(), f.Disk().Count(), f.Calls()-calls)
		}
		if told[0] != told[1] {
			t.Errorf("Open with %d: %s, with Append %s", flags, told[0], told[1])
		}
	}
}

func TestANumberIsNoMoreOfWhatItWas(t *testing.T) {
	p := NewPipe("pipe")
	for what, change := range map[string]func(x *Table){
		"Open":       func(x *Table) { open(t, x, 1, "b", files.Read) },
		"Lay":        func(x *Table) { lay(t, x, 1, p, files.Read) },
		"Dup":        func(x *Table) { dup(t, x, 2, 1) },
		"Dup a pipe": func(x *Table) { dup(t, x, 3, 1) },
		"Close":      func(x *Table) { ok(t, "Close", x.Close(1)) },
	} {
		x, f := table(t)
		write(t, f, "a", "abc", 0o600)
		write(t, f, "b", "efg", 0o600)
		open(t, x, 1, "a", files.Read)
		open(t, x, 2, "b", files.Read)
		lay(t, x, 3, p, files.Read)
		ok(t, "Unlink", f.Unlink(atRoot, "a"))
		if f.Disk().Count() != 3 {
			t.Fatalf("what is open has gone with its name")
		}
		change(x)
		if f.Disk().Count() != 2 || f.Disk().Used() != 4 {
			t.Errorf("%s: what 1 was of is there still", what)
		}
	}
	wantLeft(t, p, "pipe")
}

func TestOpenAgainAtTheSameNumber(t *testing.T) {
	x, f := table(t)
	write(t, f, "a", "abc", 0o600)
	open(t, x, 1, "a", files.Read)
	wantRead(t, x, 1, 2, "ab")
	open(t, x, 1, "a", files.Read)
	wantHolds(t, f, "a", 1)
	wantRead(t, x, 1, 2, "ab")
	// Its last name is gone: only the number holds it, and it can't be opened again.
	ok(t, "Unlink", f.Unlink(atRoot, "a"))
	wantErrno(t, "Open", x.Open(1, atRoot, "a", files.Read, 0), api.ErrNone)
	wantRead(t, x, 1, 2, "c")
}

func TestLay(t *testing.T) {
	x, f := table(t)
	p, q := NewPipe("abc"), NewPipe("xyz")
	lay(t, x, 1, p, files.Read)
	lay(t, x, 2, p, files.Write)
	lay(t, x, 3, p, files.Read|files.Write)
	wantNumbers(t, x, 1, 2, 3)
	wantRead(t, x, 1, 1, "a")
	put(t, x, 2, "d")
	put(t, x, 3, "e")
	wantRead(t, x, 3, 9, "bcde")
	wantErrno(t, "Write to 1", x.Write(1, "f"), api.ErrFd)
	wantNoRead(t, x, 2, 1, api.ErrFd)
	lay(t, x, 1, q, files.Read)
	wantRead(t, x, 1, 9, "xyz")
	wantLeft(t, p, "")
	lay(t, x, 4, q, 0)
	wantErrno(t, "Write to 4", x.Write(4, "f"), api.ErrFd)
	wantNoRead(t, x, 4, 1, api.ErrFd)
	if f.Calls() != 0 {
		t.Errorf("pipes were counted as %d calls", f.Calls())
	}
}

func TestDup(t *testing.T) {
	x, f := table(t)
	open(t, x, 1, "a", files.Write|files.Create)
	dup(t, x, 1, 2)
	wantNumbers(t, x, 1, 2)
	wantHolds(t, f, "a", 1)
	put(t, x, 1, "one ")
	put(t, x, 2, "two ")
	put(t, x, 1, "three")
	wantData(t, f, "a", "one two three")
	ok(t, "Close", x.Close(1))
	wantHolds(t, f, "a", 1)
	put(t, x, 2, "!")
	wantData(t, f, "a", "one two three!")
	ok(t, "Close", x.Close(2))
	wantHolds(t, f, "a", 0)
	wantNumbers(t, x)
}

func TestDupOntoItself(t *testing.T) {
	x, f := table(t)
	write(t, f, "a", "abc", 0o600)
	open(t, x, 1, "a", files.Read)
	ok(t, "Unlink", f.Unlink(atRoot, "a"))
	dup(t, x, 1, 1)
	wantRead(t, x, 1, 1, "a")
	dup(t, x, 1, 2)
	dup(t, x, 1, 2)
	dup(t, x, 2, 1)
	if info, e := x.Info(1); info.Holds != 1 || e != api.OK {
		t.Errorf("the file is %+v %d", info, e)
	}
	ok(t, "Close", x.Close(1))
	wantRead(t, x, 2, 9, "bc")
	ok(t, "Close", x.Close(2))
	if f.Disk().Count() != 1 {
		t.Error("the file is there still")
	}
}

func TestDupOfNothing(t *testing.T) {
	x, f := table(t)
	write(t, f, "a", "abc", 0o600)
	open(t, x, 1, "a", files.Read)
	wantErrno(t, "Dup of nothing", x.Dup(2, 1), api.ErrFd)
	wantErrno(t, "Dup of nothing to itself", x.Dup(2, 2), api.ErrFd)
	wantErrno(t, "Dup of nothing to no number", x.Dup(2, 64), api.ErrFd)
	wantNumbers(t, x, 1)
	wantRead(t, x, 1, 9, "abc")
}

func TestClose(t *testing.T) {
	x, f := table(t)
	write(t, f, "a", "abc", 0o600)
	open(t, x, 1, "a", files.Read)
	lay(t, x, 2, NewPipe("p"), files.Read)
	ok(t, "Close", x.Close(1))
	wantErrno(t, "Close again", x.Close(1), api.ErrFd)
	wantNoRead(t, x, 1, 1, api.ErrFd)
	wantNumbers(t, x, 2)
	wantHolds(t, f, "a", 0)
	ok(t, "Close", x.Close(2))
	wantNumbers(t, x)
	// A number may be taken again, and begins anew.
	open(t, x, 1, "a", files.Read)
	wantRead(t, x, 1, 9, "abc")
}

// P7.3

func TestRead(t *testing.T) {
	x, f := table(t)
	write(t, f, "a", "abcdefgh", 0o600)
	open(t, x, 1, "a", files.Read)
	for _, r := range []struct {
		most int
		want string
	}{{0, ""}, {2, "ab"}, {-1, ""}, {math.MinInt, ""}, {1, "c"}, {3, "def"}, {9, "gh"}, {9, ""}, {1, ""}, {0, ""}} {
		wantRead(t, x, 1, r.most, r.want)
	}
	open(t, x, 1, "a", files.Read)
	wantRead(t, x, 1, math.MaxInt, "abcdefgh")
	wantRead(t, x, 1, math.MaxInt, "")
	// What comes behind the place is read next.
	open(t, x, 2, "a", files.Write|Append)
	put(t, x, 2, "i\x00")
	wantRead(t, x, 1, math.MaxInt, "i\x00")
	// Each thing has a place of its own.
	open(t, x, 3, "a", files.Read)
	wantRead(t, x, 3, 1, "a")
	wantRead(t, x, 1, 1, "")
}

func TestReadBehindTheEnd(t *testing.T) {
	x, f := table(t)
	write(t, f, "a", "abcdef", 0o600)
	open(t, x, 1, "a", files.Read)
	wantRead(t, x, 1, 4, "abcd")
	open(t, x, 2, "a", files.Write|files.Empty)
	wantRead(t, x, 1, 9, "")
	put(t, x, 2, "uvw")
	wantRead(t, x, 1, 9, "")
	put(t, x, 2, "xyz")
	wantRead(t, x, 1, 9, "yz")
}

func TestFlags(t *testing.T) {
	for flags := range 64 {
		x, f := table(t)
		write(t, f, "a", "abc", 0o600)
		p := NewPipe("abc")
		lay(t, x, 2, p, flags)
		if flags&files.Create == 0 || flags&files.New == 0 {
			open(t, x, 1, "a", flags)
		} else {
			open(t, x, 1, "b", flags)
		}
		for n := 1; n <= 2; n++ {
			want := api.ErrFd
			if flags&files.Read != 0 {
				want = api.OK
			}
			_, e := x.Read(n, 1)
			wantErrno(t, fmt.Sprintf("Read of %d with %d", n, flags), e, want)
			_, e = x.Read(n, 0)
			wantErrno(t, fmt.Sprintf("Read of none of %d with %d", n, flags), e, want)
			_, e = x.All(n)
			wantErrno(t, fmt.Sprintf("All of %d with %d", n, flags), e, want)
			want = api.ErrFd
			if flags&files.Write != 0 {
				want = api.OK
			}
			wantErrno(t, fmt.Sprintf("Write of %d with %d", n, flags), x.Write(n, "d"), want)
			wantErrno(t, fmt.Sprintf("Write of none of %d with %d", n, flags), x.Write(n, ""), want)
		}
	}
}

func TestFlagsAreKeptNotTheMode(t *testing.T) {
	x, f := table(t)
	write(t, f, "a", "abc", 0o600)
	open(t, x, 1, "a", files.Read|files.Write)
	ok(t, "Chmod", f.Chmod(atRoot, "a", 0))
	wantRead(t, x, 1, 1, "a")
	put(t, x, 1, "z")
	wantRead(t, x, 1, 9, "c")
	ok(t, "Open", x.Open(2, atRoot, "new", files.Read|files.Write|files.Create, 0))
	put(t, x, 2, "n")
	wantData(t, f, "new", "n")
}

func TestAll(t *testing.T) {
	x, f := table(t)
	whole := repeat("abcdefgh", api.MaxFile/8)
	write(t, f, "a", whole, 0o600)
	open(t, x, 1, "a", files.Read)
	all := func(n int, want string) {
		t.Helper()
		if got, e := x.All(n); got != want || e != api.OK {
			t.Errorf("All(%d) told %d bytes %d, want %d", n, len(got), e, len(want))
		}
	}
	all(1, whole)
	all(1, "")
	open(t, x, 1, "a", files.Read)
	wantRead(t, x, 1, 3, "abc")
	all(1, whole[3:])
	p := NewPipe(whole + "xy")
	lay(t, x, 2, p, files.Read)
	all(2, whole)
	wantLeft(t, p, "xy")
	all(2, "xy")
	all(2, "")
	if got, e := x.All(3); got != "" || e != api.ErrFd {
		t.Errorf("All of nothing told %q %d", got, e)
	}
}

func TestWriteAtThePlace(t *testing.T) {
	x, f := table(t)
	write(t, f, "a", "abcdefgh", 0o600)
	open(t, x, 1, "a", files.Read|files.Write)
	put(t, x, 1, "AB")
	wantRead(t, x, 1, 2, "cd")
	put(t, x, 1, "EF")
	wantData(t, f, "a", "ABcdEFgh")
	put(t, x, 1, "GHIJ")
	wantData(t, f, "a", "ABcdEFGHIJ")
	wantRead(t, x, 1, 9, "")
	// Another one begins at 0.
	open(t, x, 2, "a", files.Write)
	put(t, x, 2, "z")
	wantData(t, f, "a", "zBcdEFGHIJ")
	// The file was emptied: between its end and the place come noughts.
	open(t, x, 3, "a", files.Write|files.Empty)
	put(t, x, 1, "!")
	wantData(t, f, "a", repeat("\x00", 10)+"!")
}

func TestWriteAtTheEnd(t *testing.T) {
	x, f := table(t)
	write(t, f, "a", "abc", 0o600)
	open(t, x, 1, "a", files.Read|files.Write|Append)
	open(t, x, 2, "a", files.Write|Append)
	wantRead(t, x, 1, 1, "a")
	put(t, x, 1, "d")
	put(t, x, 2, "ef")
	wantData(t, f, "a", "abcdef")
	// The place went behind the d.
	wantRead(t, x, 1, 9, "ef")
	put(t, x, 1, "g")
	wantData(t, f, "a", "abcdefg")
	open(t, x, 3, "a", files.Write|files.Empty)
	put(t, x, 1, "new")
	wantData(t, f, "a", "new")
	wantRead(t, x, 1, 9, "")
	put(t, x, 3, "N")
	wantData(t, f, "a", "New")
}

func TestWriteOfNothing(t *testing.T) {
	f := begin(t, 100, 5)
	write(t, f, "a", "abc", 0o600)
	x := New(f)
	open(t, x, 1, "a", files.Read|files.Write)
	open(t, x, 2, "a", files.Read|files.Write|Append)
	p := NewPipe(repeat("a", api.MaxFile+1))
	lay(t, x, 3, p, files.Write)
	calls := f.Calls()
	for n := 1; n <= 3; n++ {
		ok(t, fmt.Sprint("Write of nothing to ", n), x.Write(n, ""))
	}
	if f.Calls() != calls {
		t.Errorf("nothing was counted as %d calls", f.Calls()-calls)
	}
	wantRead(t, x, 2, 9, "abc")
	ok(t, "Write of nothing", x.Write(2, ""))
	wantErrno(t, "Write of nothing to nothing", x.Write(4, ""), api.ErrFd)
}

func TestWriteTellsTheErrorBelow(t *testing.T) {
	for what, flags := range map[string]int{"at the place": files.Read | files.Write, "at the end": files.Read | files.Write | Append} {
		// The calls ahead are Open, Write and Chmod; then the first Write here is number 3.
		f := begin(t, 8, 5)
		write(t, f, "a", "abc", 0o600)
		x := New(f)
		open(t, x, 1, "a", flags)
		wantRead(t, x, 1, 2, "ab")
		put(t, x, 1, "d")
		wantErrno(t, "Write without room "+what, x.Write(1, "efghijkl"), api.ErrSpace)
		wantErrno(t, "Write that fails "+what, x.Write(1, "e"), api.ErrIO)
		put(t, x, 1, "e")
		want := "abde"
		if flags&Append != 0 {
			want = "abcde"
		}
		wantData(t, f, "a", want)
		wantRead(t, x, 1, 9, "")
		if f.Calls() != 7 {
			t.Errorf("%s: there were %d calls", what, f.Calls())
		}
	}
}

func TestARefusedWriteKeepsThePlace(t *testing.T) {
	f := begin(t, 5, -1)
	write(t, f, "a", "abcd", 0o600)
	x := New(f)
	open(t, x, 1, "a", files.Read|files.Write|Append)
	wantRead(t, x, 1, 1, "a")
	wantErrno(t, "Write without room", x.Write(1, "e"), api.ErrSpace)
	wantRead(t, x, 1, 1, "b")
	open(t, x, 2, "a", files.Read|files.Write)
	wantRead(t, x, 2, 3, "abc")
	wantErrno(t, "Write without room", x.Write(2, "DE"), api.ErrSpace)
	wantRead(t, x, 2, 1, "d")
}

func TestWriteToTheLimit(t *testing.T) {
	x, f := table(t)
	open(t, x, 1, "a", files.Write|files.Create)
	put(t, x, 1, repeat("a", api.MaxFile-1))
	wantErrno(t, "Write", x.Write(1, "bc"), api.ErrLong)
	put(t, x, 1, "b")
	wantErrno(t, "Write", x.Write(1, "c"), api.ErrLong)
	open(t, x, 2, "a", files.Write|Append)
	wantErrno(t, "Write at the end", x.Write(2, "c"), api.ErrLong)
	wantData(t, f, "a", repeat("a", api.MaxFile-1)+"b")
	p := NewPipe(repeat("a", api.MaxFile))
	lay(t, x, 3, p, files.Read|files.Write)
	wantErrno(t, "Write to a pipe", x.Write(3, "c"), api.ErrLong)
	wantRead(t, x, 3, 1, "a")
	put(t, x, 3, "c")
}

func TestReadAndWriteOfPipes(t *testing.T) {
	x, _ := table(t)
	p := NewPipe("abcdef")
	lay(t, x, 1, p, files.Read|files.Write|Append)
	wantRead(t, x, 1, -1, "")
	wantRead(t, x, 1, 0, "")
	wantRead(t, x, 1, 2, "ab")
	put(t, x, 1, "gh")
	wantRead(t, x, 1, 5, "cdefg")
	wantLeft(t, p, "h")
	p.Write("i")
	wantRead(t, x, 1, math.MaxInt, "hi")
}

func TestAFileOthersReleased(t *testing.T) {
	x, f := table(t)
	open(t, x, 1, "a", files.Read|files.Write|files.Create|Append)
	dup(t, x, 1, 2)
	put(t, x, 1, "abc")
	node, _ := x.Node(1)
	ok(t, "Unlink", f.Unlink(atRoot, "a"))
	ok(t, "Release", f.Disk().Release(node))
	wantNoRead(t, x, 1, 1, api.ErrNone)
	wantErrno(t, "Write", x.Write(1, "d"), api.ErrNone)
	if info, e := x.Info(1); info != (disk.Info{}) || e != api.ErrNone {
		t.Errorf("Info told %+v %d", info, e)
	}
	ok(t, "Close", x.Close(1))
	ok(t, "Close", x.Close(2))
	wantNumbers(t, x)
}

// P7.4

func TestNodeAndInfo(t *testing.T) {
	x, f := table(t)
	write(t, f, "a", "abc", 0o604)
	write(t, f, "b", "", 0o600)
	ok(t, "Link", f.Link(atRoot, "a", "c"))
	open(t, x, 1, "a", files.Read)
	open(t, x, 2, "c", files.Write)
	open(t, x, 3, "b", 0)
	lay(t, x, 4, NewPipe("abc"), files.Read)
	dup(t, x, 4, 5)
	a, _, _ := f.Stat(atRoot, "a", false)
	b, _, _ := f.Stat(atRoot, "b", false)
	for n, want := range map[int]int{0: 0, 1: a, 2: a, 3: b, 4: 0, 5: 0, -1: 0, 64: 0, math.MaxInt: 0, math.MinInt: 0} {
		id, ok := x.Node(n)
		if id != want || ok != (want != 0) {
			t.Errorf("Node(%d) told %d %v, want %d", n, id, ok, want)
		}
		info, e := x.Info(n)
		wantInfo, wantE := disk.Info{}, api.ErrFd
		switch want {
		case a:
			wantInfo, wantE = disk.Info{Kind: disk.File, Mode: 0o604, Links: 2, Holds: 2, Size: 3}, api.OK
		case b:
			wantInfo, wantE = disk.Info{Kind: disk.File, Mode: 0o600, Links: 1, Holds: 1}, api.OK
		}
		if info != wantInfo || e != wantE {
			t.Errorf("Info(%d) told %+v %d, want %+v %d", n, info, e, wantInfo, wantE)
		}
	}
	ok(t, "Close", x.Close(1))
	if id, ok := x.Node(1); id != 0 || ok {
		t.Errorf("Node of what is closed told %d %v", id, ok)
	}
}

func TestSame(t *testing.T) {
	x, _ := table(t)
	p := NewPipe("")
	open(t, x, 0, "a", files.Read|files.Create)
	open(t, x, 1, "a", files.Read|files.Create)
	dup(t, x, 1, 2)
	dup(t, x, 2, 3)
	lay(t, x, 4, p, files.Read)
	lay(t, x, 5, p, files.Write)
	lay(t, x, 6, p, files.Read)
	dup(t, x, 4, 7)
	kinds := []int{0: 1, 1: 2, 2: 2, 3: 2, 4: 3, 5: 4, 6: 5, 7: 3}
	kind := func(n int) int {
		if n < 0 || n >= len(kinds) {
			return 0
		}
		return kinds[n]
	}
	for a := -2; a < 66; a++ {
		for b := -2; b < 66; b++ {
			if want := kind(a) != 0 && kind(a) == kind(b); x.Same(a, b) != want {
				t.Errorf("Same(%d, %d) told %v", a, b, !want)
			}
		}
	}
	if x.Same(math.MinInt, math.MinInt) || x.Same(math.MaxInt, math.MaxInt) {
		t.Error("what is no number is of something")
	}
}

func TestClone(t *testing.T) {
	x, f := table(t)
	write(t, f, "a", "abcdefgh", 0o600)
	p := NewPipe("pipe")
	open(t, x, 1, "a", files.Read)
	dup(t, x, 1, 7)
	lay(t, x, 2, p, files.Read)
	c := x.Clone()
	wantNumbers(t, c, 1, 2, 7)
	wantHolds(t, f, "a", 1)
	if !c.Same(1, 7) || c.Same(1, 2) {
		t.Error("the clone's numbers are of other things")
	}
	// They have one place.
	wantRead(t, x, 1, 1, "a")
	wantRead(t, c, 1, 1, "b")
	wantRead(t, x, 7, 1, "c")
	wantRead(t, c, 7, 1, "d")
	wantRead(t, c, 2, 1, "p")
	wantRead(t, x, 2, 1, "i")
	// Each has its numbers by itself.
	open(t, c, 3, "a", files.Read)
	ok(t, "Close", c.Close(2))
	ok(t, "Close", x.Close(1))
	wantNumbers(t, x, 2, 7)
	wantNumbers(t, c, 1, 3, 7)
	wantHolds(t, f, "a", 2)
	d := c.Clone()
	ok(t, "Close", x.Close(7))
	c.Shut()
	wantHolds(t, f, "a", 2)
	wantRead(t, d, 1, 1, "e")
	ok(t, "Close", d.Close(3))
	wantHolds(t, f, "a", 1)
	ok(t, "Close", d.Close(1))
	wantRead(t, d, 7, 1, "f")
	ok(t, "Close", d.Close(7))
	wantHolds(t, f, "a", 0)
	wantNumbers(t, d)
	// A clone of the same files opens there.
	open(t, d, 0, "a", files.Read)
	wantRead(t, d, 0, 1, "a")
	if e := New(f).Clone().Numbers(); len(e) != 0 {
		t.Errorf("a clone of an empty table has %v", e)
	}
}

func TestShut(t *testing.T) {
	x, f := table(t)
	write(t, f, "a", "abc", 0o600)
	write(t, f, "b", "abc", 0o600)
	p := NewPipe("pipe")
	for n := range api.MaxFds {
		switch n % 4 {
		case 0:
			open(t, x, n, "a", files.Read)
		case 1:
			open(t, x, n, "b", files.Read|files.Write)
		case 2:
			lay(t, x, n, p, files.Read)
		default:
			dup(t, x, n-2, n)
		}
	}
	wantHolds(t, f, "a", 16)
	calls := f.Calls()
	x.Shut()
	wantNumbers(t, x)
	wantHolds(t, f, "a", 0)
	wantHolds(t, f, "b", 0)
	wantLeft(t, p, "pipe")
	if f.Calls() != calls {
		t.Errorf("Shut was counted as %d calls", f.Calls()-calls)
	}
	x.Shut()
	wantNumbers(t, x)
	open(t, x, 1, "a", files.Read)
	wantRead(t, x, 1, 9, "abc")
	x.Shut()
	wantHolds(t, f, "a", 0)
}

// The chapter's example.
func TestTwoNumbersOfOneFile(t *testing.T) {
	x, f := table(t)
	open(t, x, 1, "out", files.Write|files.Create|files.Empty)
	dup(t, x, 1, 2)
	put(t, x, 1, "out\n")
	put(t, x, 2, "err\n")
	wantData(t, f, "out", "out\nerr\n")
}

// P1

func TestAnyNumbersEnd(t *testing.T) {
	numbers := []int{math.MinInt, -1, 0, 1, 31, 63, 64, 1 << 31, math.MaxInt}
	for _, flags := range numbers {
		for _, n := range numbers {
			x, f := table(t)
			write(t, f, "a", "abc", 0o600)
			x.Open(n, files.Who{At: n, Mask: n}, "a", flags, n)
			x.Open(n, atRoot, "a", flags, n)
			x.Open(1, atRoot, "new", flags, n)
			x.Lay(n, NewPipe("a"), flags)
			for _, k := range numbers {
				x.Dup(n, k)
				x.Read(k, n)
				x.All(k)
				x.Write(k, "a")
				x.Same(n, k)
				x.Node(k)
				x.Info(k)
				x.Has(k)
				NewPipe("a").Read(k)
			}
			c := x.Clone()
			x.Close(n)
			x.Shut()
			c.Shut()
			if _, info, _ := f.Stat(atRoot, "a", false); info.Holds != 0 {
				t.Errorf("%d, %d: the file is held %d times", flags, n, info.Holds)
			}
		}
	}
}
