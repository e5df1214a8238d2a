package dir

import (
	"math"
	"slices"
	"strconv"
	"strings"
	"testing"

	"seabag/api"
)

func repeat(s string, n int) string { return strings.Repeat(s, n) }

// filled is a directory into which the names came in this order, and name the nodes 1, 2, ..
func filled(t *testing.T, names ...string) *Dir {
	t.Helper()
	d := &Dir{}
	for i, name := range names {
		if e := d.Put(name, i+1); e != api.OK {
			t.Fatalf("Put of %.20q told %d", name, e)
		}
	}
	return d
}

func entries(told ...any) []Entry {
	var list []Entry
	for i := 0; i < len(told); i += 2 {
		list = append(list, Entry{Name: told[i].(string), Node: told[i+1].(int)})
	}
	return list
}

func wantList(t *testing.T, what string, got, want []Entry) {
	t.Helper()
	if !slices.Equal(got, want) {
		t.Errorf("%.40q: told %#v, want %#v", what, got, want)
	}
}

// model is what the chapter says a directory is, with neither an order nor a search.
type model map[string]int

func isName(s string) bool {
	return len(s) >= 1 && len(s) <= 255 && s != "." && s != ".." && !strings.ContainsAny(s, "/\x00")
}

func (m model) put(name string, node int) api.Errno {
	_, there := m[name]
	switch {
	case len(name) > 255:
		return api.ErrLong
	case !isName(name):
		return api.ErrForm
	case there:
		return api.ErrExist
	}
	m[name] = node
	return api.OK
}

func (m model) set(name string, node int) api.Errno {
	if _, there := m[name]; !there {
		return api.ErrNone
	}
	m[name] = node
	return api.OK
}

func (m model) drop(name string) api.Errno {
	if _, there := m[name]; !there {
		return api.ErrNone
	}
	delete(m, name)
	return api.OK
}

func (m model) size() int {
	size := 0
	for name := range m {
		size += len(name)
	}
	return size
}

func (m model) from(head string) []Entry {
	var list []Entry
	for name, node := range m {
		if len(name) >= len(head) && name[:len(head)] == head {
			list = append(list, Entry{name, node})
		}
	}
	slices.SortFunc(list, func(a, b Entry) int { return slices.Compare([]byte(a.Name), []byte(b.Name)) })
	return list
}

// hold holds everything that a directory tells against what the model says.
func hold(t *testing.T, what string, d *Dir, m model, texts []string) {
	t.Helper()
	if d.Len() != len(m) || d.Size() != m.size() {
		t.Fatalf("%.40q: %d entries and %d bytes, want %d and %d", what, d.Len(), d.Size(), len(m), m.size())
	}
	if got, want := d.List(), m.from(""); !slices.Equal(got, want) {
		t.Fatalf("%.40q: List told %#v, want %#v", what, got, want)
	}
	for _, text := range texts {
		node, ok := d.Get(text)
		want, there := m[text]
		if node != want || ok != there {
			t.Fatalf("%.40q: Get of %.20q told %d %v, want %d %v", what, text, node, ok, want, there)
		}
		if got, want := d.From(text), m.from(text); !slices.Equal(got, want) {
			t.Fatalf("%.40q: From of %.20q told %#v, want %#v", what, text, got, want)
		}
	}
}

// P3.1

func TestPut(t *testing.T) {
	long := repeat("n", api.MaxName)
	for _, x := range []struct {
		name string
		want api.Errno
	}{
		{"b", api.OK},
		{"-n", api.OK},
		{" ", api.OK},
		{"\n", api.OK},
		{"...", api.OK},
		{".b", api.OK},
		{"\xff", api.OK},
		{"*", api.OK},
		{"A", api.OK},
		{repeat("n", api.MaxName-1), api.OK},
		{long, api.OK},
		{repeat("\xc3\xa4", 127), api.OK},

		{"a", api.ErrExist},
		{repeat("m", api.MaxName), api.ErrExist},

		{"", api.ErrForm},
		{".", api.ErrForm},
		{"..", api.ErrForm},
		{"/", api.ErrForm},
		{"a/", api.ErrForm},
		{"/a", api.ErrForm},
		{"a/b", api.ErrForm},
		{"\x00", api.ErrForm},
		{"a\x00", api.ErrForm},
		{repeat("n", api.MaxName-1) + "/", api.ErrForm},
		{repeat("/", api.MaxName), api.ErrForm},

		{long + "n", api.ErrLong},
		{repeat("\xc3\xa4", 128), api.ErrLong},
		{repeat("n", api.MaxPath+1), api.ErrLong},
	} {
		d := filled(t, "a", repeat("m", api.MaxName))
		if e := d.Put(x.name, 7); e != x.want {
			t.Errorf("Put of %.20q told %d, want %d", x.name, e, x.want)
		}
		m := model{"a": 1, repeat("m", api.MaxName): 2}
		if x.want == api.OK {
			m[x.name] = 7
		}
		hold(t, "Put of "+x.name, d, m, []string{x.name, "a", "b"})
	}
}

func TestPutTellsTheFirstError(t *testing.T) {
	for _, name := range []string{
		repeat("/", api.MaxName+1), repeat("n", api.MaxName) + "/", repeat("n", api.MaxName) + "\x00", repeat(".", 300),
	} {
		var d Dir
		if e := d.Put(name, 1); e != api.ErrLong {
			t.Errorf("Put of %.20q told %d, want %d", name, e, api.ErrLong)
		}
	}
}

// sought are texts that are looked for where b, a and ab are, and whether they are there.
func sought() map[string]bool {
	return map[string]bool{
		"a": true, "ab": true, "b": true,
		"": false, "A": false, "aa": false, "abc": false, "c": false,
		".": false, "..": false, "a/b": false, "./a": false, "\x00": false, "a\x00": false,
		repeat("a", api.MaxName): false, repeat("a", api.MaxName+1): false,
	}
}

func TestSet(t *testing.T) {
	for name, there := range sought() {
		d, m := filled(t, "b", "a", "ab"), model{"b": 1, "a": 2, "ab": 3}
		want := api.ErrNone
		if there {
			want, m[name] = api.OK, 9
		}
		if e := d.Set(name, 9); e != want {
			t.Errorf("Set of %.20q told %d, want %d", name, e, want)
		}
		hold(t, "Set of "+name, d, m, []string{name, "a", "ab", "b"})
	}
}

func TestDrop(t *testing.T) {
	for name, there := range sought() {
		d, m := filled(t, "b", "a", "ab"), model{"b": 1, "a": 2, "ab": 3}
		delete(m, name)
		want := api.ErrNone
		if there {
			want = api.OK
		}
		if e := d.Drop(name); e != want {
			t.Errorf("Drop of %.20q told %d, want %d", name, e, want)
		}
		if e := d.Drop(name); e != api.ErrNone {
			t.Errorf("Drop of %.20q again told %d, want %d", name, e, api.ErrNone)
		}
		if e := d.Set(name, 4); e != api.ErrNone {
			t.Errorf("Set of %.20q behind Drop told %d, want %d", name, e, api.ErrNone)
		}
		hold(t, "Drop of "+name, d, m, []string{name, "a", "ab", "b"})
	}
}

func TestDropTillNothingIsLeft(t *testing.T) {
	d := filled(t, "b", "a", "c")
	for _, name := range []string{"a", "c", "b"} {
		if e := d.Drop(name); e != api.OK {
			t.Errorf("Drop of %q told %d", name, e)
		}
	}
	hold(t, "emptied", d, model{}, []string{"", "a", "b", "c"})
	if e := d.Put("a", 5); e != api.OK {
		t.Errorf("Put of a name that was dropped told %d", e)
	}
	hold(t, "put again", d, model{"a": 5}, []string{"", "a", "b", "c"})
}

func TestNodesMayBeAnyNumbersAndAreSharedByNames(t *testing.T) {
	nodes := []int{0, 1, -1, math.MaxInt, math.MinInt, 1, 0}
	d, m := &Dir{}, model{}
	for i, node := range nodes {
		name := "n" + strconv.Itoa(i)
		if e := d.Put(name, node+1); e != api.OK {
			t.Fatalf("Put of %d told %d", node, e)
		}
		if e := d.Set(name, node); e != api.OK {
			t.Fatalf("Set of %d told %d", node, e)
		}
		m[name] = node
	}
	hold(t, "nodes", d, m, []string{"n0", "n1", "n2", "n3", "n4", "n5", "n6"})
}

// P3.2

func TestZeroDir(t *testing.T) {
	var d Dir
	texts := []string{"", "a", ".", "..", "/", "\x00", repeat("a", api.MaxName+1)}
	hold(t, "zero", &d, model{}, texts)
	for _, text := range texts {
		if d.Set(text, 1) != api.ErrNone || d.Drop(text) != api.ErrNone {
			t.Errorf("%.20q is there in an empty directory", text)
		}
	}
	hold(t, "zero, behind what was refused", &d, model{}, texts)
}

func TestLenAndSize(t *testing.T) {
	var d Dir
	for i, x := range []struct {
		change    func() api.Errno
		len, size int
	}{
		{func() api.Errno { return d.Put("b", 1) }, 1, 1},
		{func() api.Errno { return d.Put("\xc3\xa4", 2) }, 2, 3},
		{func() api.Errno { return d.Put(repeat("n", api.MaxName), 3) }, 3, 258},
		{func() api.Errno { return d.Set("b", 700) }, 3, 258},
		{func() api.Errno { return d.Put("b", 1) }, 3, 258},
		{func() api.Errno { return d.Put("", 1) }, 3, 258},
		{func() api.Errno { return d.Drop("c") }, 3, 258},
		{func() api.Errno { return d.Drop("\xc3\xa4") }, 2, 256},
		{func() api.Errno { return d.Drop(repeat("n", api.MaxName)) }, 1, 1},
		{func() api.Errno { return d.Drop("b") }, 0, 0},
	} {
		x.change()
		if d.Len() != x.len || d.Size() != x.size {
			t.Errorf("%d: %d entries and %d bytes, want %d and %d", i, d.Len(), d.Size(), x.len, x.size)
		}
	}
}

func TestGet(t *testing.T) {
	d := filled(t, "b", "a", "ab")
	d.Put("nought", 0)
	for _, x := range []struct {
		name string
		node int
		ok   bool
	}{
		{"b", 1, true}, {"a", 2, true}, {"ab", 3, true}, {"nought", 0, true},
		{"", 0, false}, {"A", 0, false}, {"aa", 0, false}, {"abc", 0, false}, {"c", 0, false}, {"z", 0, false},
		{".", 0, false}, {"..", 0, false}, {"a/", 0, false}, {"./a", 0, false}, {"a\x00", 0, false},
		{repeat("a", api.MaxName+1), 0, false},
	} {
		if node, ok := d.Get(x.name); node != x.node || ok != x.ok {
			t.Errorf("Get of %.20q told %d %v, want %d %v", x.name, node, ok, x.node, x.ok)
		}
	}
}

func TestListRisesByteByByte(t *testing.T) {
	d := filled(t, "b", "\xff", "a", "Z", "ab", "\xc3\xa4", "a b", "10", "9", "-", "\x01", "~", "\x7f", "\x80")
	wantList(t, "List", d.List(), entries("\x01", 11, "-", 10, "10", 8, "9", 9, "Z", 4, "a", 3, "a b", 7, "ab", 5,
		"b", 1, "~", 12, "\x7f", 13, "\x80", 14, "\xc3\xa4", 6, "\xff", 2))
}

func TestFrom(t *testing.T) {
	d := filled(t, "b", "a", "ab")
	wantList(t, "From of a", d.From("a"), entries("a", 2, "ab", 3))
	long := repeat("\xff", api.MaxName)
	d = filled(t, "b", "a", "ab", "abc", "ac", "B", ".p", "...", "\xff", "\xff\xfe", long, "a\xff", "b\x01")
	for _, x := range []struct {
		head string
		want []Entry
	}{
		{"", d.List()},
		{"a", entries("a", 2, "ab", 3, "abc", 4, "ac", 5, "a\xff", 12)},
		{"ab", entries("ab", 3, "abc", 4)},
		{"abc", entries("abc", 4)},
		{"abd", nil},
		{"abcd", nil},
		{"aa", nil},
		{"b", entries("b", 1, "b\x01", 13)},
		{"B", entries("B", 6)},
		{"c", nil},
		{".", entries("...", 8, ".p", 7)},
		{"..", entries("...", 8)},
		{"\xff", entries("\xff", 9, "\xff\xfe", 10, long, 11)},
		{long, entries(long, 11)},
		{long + "\xff", nil},
		{"\x00", nil},
		{"a/", nil},
		{"/", nil},
		{repeat("a", api.MaxPath+1), nil},
	} {
		wantList(t, "From of "+x.head, d.From(x.head), x.want)
	}
}

// Both

// numbers tells one number behind the other, the same ones each time.
func numbers() func(below int) int {
	state := uint32(1)
	return func(below int) int {
		state = state*1664525 + 1013904223
		return int(state>>8) % below
	}
}

func TestLongLivesAgainstTheModel(t *testing.T) {
	texts := []string{
		"a", "b", "ab", "ba", "aa", "abb", "A", ".a", "a.", "\xff", "a\xff", "\x01", repeat("a", api.MaxName), repeat("b", api.MaxName),
		"", ".", "..", "a/b", "\x00", repeat("a", api.MaxName+1),
	}
	next := numbers()
	for life := range 40 {
		d, m := &Dir{}, model{}
		for step := range 150 {
			name, node := texts[next(len(texts))], next(1000)
			var got, want api.Errno
			switch next(3 + life%3) {
			case 0:
				got, want = d.Drop(name), m.drop(name)
			case 1:
				got, want = d.Set(name, node), m.set(name, node)
			default:
				got, want = d.Put(name, node), m.put(name, node)
			}
			if got != want {
				t.Fatalf("life %d, step %d, %.20q: told %d, want %d", life, step, name, got, want)
			}
			hold(t, "life "+strconv.Itoa(life), d, m, texts)
		}
	}
}

func TestManyEntries(t *testing.T) {
	const many = 5000
	d, m := &Dir{}, model{}
	for i := range many {
		name := "n" + strconv.Itoa(i*2671%many)
		if got, want := d.Put(name, i), m.put(name, i); got != want {
			t.Fatalf("Put of %s told %d, want %d", name, got, want)
		}
	}
	hold(t, "all", d, m, []string{"n", "n1", "n499", "n4999", "n5000", "n9999"})
	for i := 0; i < many; i += 3 {
		name := "n" + strconv.Itoa(i)
		if got, want := d.Drop(name), m.drop(name); got != want {
			t.Fatalf("Drop of %s told %d, want %d", name, got, want)
		}
	}
	hold(t, "two thirds", d, m, []string{"n", "n0", "n1", "n2", "n3", "n499", "n4999"})
}

func TestListsToldAreNewMemory(t *testing.T) {
	d, m := filled(t, "b", "a", "ab"), model{"b": 1, "a": 2, "ab": 3}
	for _, told := range []func() []Entry{d.List, func() []Entry { return d.From("") }, func() []Entry { return d.From("a") }} {
		list, other := told(), told()
		want := slices.Clone(other)
		_ = append(list[:1], Entry{"spoilt", -1})
		_ = append(list, Entry{"spoilt", -2})
		list[0] = Entry{"spoilt", -3}
		wantList(t, "another list", other, want)
		hold(t, "spoilt", d, m, []string{"a", "ab", "b", "spoilt"})
	}
	list, begun := d.List(), d.From("a")
	d.Set("a", 9)
	d.Drop("ab")
	d.Put("aa", 4)
	wantList(t, "List told ahead of changes", list, entries("a", 2, "ab", 3, "b", 1))
	wantList(t, "From told ahead of changes", begun, entries("a", 2, "ab", 3))
}

func TestDirsAreApart(t *testing.T) {
	var one, other Dir
	one.Put("a", 1)
	other.Put("a", 2)
	other.Put("b", 3)
	one.Drop("a")
	hold(t, "one", &one, model{}, []string{"a", "b"})
	hold(t, "other", &other, model{"a": 2, "b": 3}, []string{"a", "b"})
}
