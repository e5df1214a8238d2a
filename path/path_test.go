package path

import (
	"regexp"
	"slices"
	"strings"
	"testing"

	"seabag/api"
)

// shortTexts calls f with every text of up to six of the bytes that matter.
func shortTexts(f func(s string)) {
	const letters = "/.a\x00\xff"
	var grow func(s string)
	grow = func(s string) {
		f(s)
		if len(s) < 6 {
			for i := range len(letters) {
				grow(s + letters[i:i+1])
			}
		}
	}
	grow("")
}

func repeat(s string, n int) string { return strings.Repeat(s, n) }

// P2.1

func TestName(t *testing.T) {
	for _, s := range []string{
		"a", "-n", " ", "\n", "...", ".a", "a.", "..a", ".-", "\xff", "\\", "*", "ä", "~",
		repeat("n", api.MaxName-1), repeat("n", api.MaxName), repeat(".", api.MaxName), repeat("\xc3\xa4", 127),
	} {
		if !Name(s) {
			t.Errorf("%.20q is no name", s)
		}
	}
	for _, s := range []string{
		"", ".", "..", "/", "a/", "/a", "a/b", "./", "a\x00", "\x00", "\x00a", "a\x00b",
		repeat("n", api.MaxName+1), repeat("\xc3\xa4", 128), repeat("n", api.MaxName-1) + "/", repeat("n", api.MaxName-1) + "\x00",
	} {
		if Name(s) {
			t.Errorf("%.20q is a name", s)
		}
	}
}

func TestRight(t *testing.T) {
	for _, s := range []string{
		"a", "/", "//", ".", "..", "a/", "a//b", "\n", "\xff\xfe", "../..",
		repeat("n", api.MaxName+1), repeat("n", api.MaxPath), repeat("/", api.MaxPath), repeat("a/", 2047),
	} {
		if !Right(s) {
			t.Errorf("%.20q is no path", s)
		}
	}
	for _, s := range []string{
		"", "\x00", "a\x00", "\x00a", "/\x00/", repeat("n", api.MaxPath+1), repeat("/", api.MaxPath+1), repeat("a/", 2048),
		repeat("n", api.MaxPath-1) + "\x00",
	} {
		if Right(s) {
			t.Errorf("%.20q is a path", s)
		}
	}
}

func TestPlain(t *testing.T) {
	longest := repeat("n", api.MaxName)
	for _, s := range []string{
		"a", "a/b", "a/b/c", ".../...", "-/ ", longest, longest + "/" + longest, "a/" + longest,
		repeat(longest+"/", 15) + longest, repeat("n/", 2047) + "n",
	} {
		if !Plain(s) {
			t.Errorf("%.20q isn't plain", s)
		}
	}
	for _, s := range []string{
		"", "/", "/a", "a/", "a//b", ".", "..", "./a", "../a", "a/.", "a/..", "a/./b", "a/../b", "a\x00", "a/\x00", "\x00/a",
		longest + "n", longest + "n/a", "a/" + longest + "n", "a/n" + longest + "/b",
		repeat("n/", 2047), repeat("n/", 2048), repeat("n/", 2047) + "nn",
	} {
		if Plain(s) {
			t.Errorf("%.20q is plain", s)
		}
	}
}

func TestKindsOfShortTexts(t *testing.T) {
	const name = `([^/\x00]{3,}|[^/\x00.]|[^/\x00.][^/\x00]|\.[^/\x00.])`
	names := regexp.MustCompile(`\A` + name + `\z`)
	plain := regexp.MustCompile(`\A` + name + `(/` + name + `)*\z`)
	right := regexp.MustCompile(`\A[^\x00]+\z`)
	shortTexts(func(s string) {
		got := [4]bool{Name(s), Right(s), Plain(s), Absolute(s)}
		want := [4]bool{names.MatchString(s), right.MatchString(s), plain.MatchString(s), strings.HasPrefix(s, "/")}
		if got != want {
			t.Errorf("Name, Right, Plain, Absolute of %q: %v, not %v", s, got, want)
		}
	})
}

func TestAbsolute(t *testing.T) {
	for s, want := range map[string]bool{
		"": false, "/": true, "//": true, "/a": true, "a": false, "a/": false, "./a": false, "\x00/": false, "/\x00": true,
		"/" + repeat("n", api.MaxPath): true,
	} {
		if Absolute(s) != want {
			t.Errorf("Absolute(%.20q) isn't %v", s, want)
		}
	}
}

func TestParts(t *testing.T) {
	for _, x := range []struct {
		s    string
		want []string
	}{
		{"", nil}, {"/", nil}, {"///", nil}, {"a", []string{"a"}}, {"/a", []string{"a"}}, {"a/", []string{"a"}},
		{"a/b", []string{"a", "b"}}, {"b/a/b", []string{"b", "a", "b"}}, {"//a///bc//", []string{"a", "bc"}},
		{"/./../...", []string{".", "..", "..."}}, {"a\x00/\xff", []string{"a\x00", "\xff"}}, {" /\n", []string{" ", "\n"}},
		{repeat("n", api.MaxPath+1) + "/m", []string{repeat("n", api.MaxPath+1), "m"}},
	} {
		if got := Parts(x.s); !slices.Equal(got, x.want) {
			t.Errorf("Parts(%.20q) = %.60q", x.s, got)
		}
	}
	if got := Parts(repeat("/a", 100000)); len(got) != 100000 {
		t.Errorf("of 100000 parts %d", len(got))
	}
}

func TestPartsOfShortTexts(t *testing.T) {
	part := regexp.MustCompile(`[^/]+`)
	shortTexts(func(s string) {
		if got, want := Parts(s), part.FindAllString(s, -1); !slices.Equal(got, want) {
			t.Errorf("Parts(%q) = %q, not %q", s, got, want)
		}
	})
}

func TestListsAreNew(t *testing.T) {
	for _, list := range []func(string) []string{Parts, Above} {
		first := list("a/b/c")
		first[0] = "other"
		_ = append(first[:1], "another")
		if again := list("a/b/c"); again[0] != "a" || again[1] == "another" {
			t.Errorf("a later list: %q", again)
		}
	}
}

// P2.2

func TestBaseAndDir(t *testing.T) {
	for _, x := range []struct{ s, dir, base string }{
		{"", ".", ""}, {"a", ".", "a"}, {"a/", ".", "a"}, {"a///", ".", "a"},
		{"/", "/", "/"}, {"//", "/", "/"}, {"///", "/", "/"},
		{"/a", "/", "a"}, {"/a/", "/", "a"}, {"//a", "/", "a"}, {"///a//", "/", "a"},
		{"a/b", "a", "b"}, {"a//b/", "a", "b"}, {"a//b//", "a", "b"}, {"/a/b", "/a", "b"}, {"//a//b", "//a", "b"},
		{"a/b/c", "a/b", "c"}, {"a//b///c/", "a//b", "c"},
		{".", ".", "."}, {"..", ".", ".."}, {"./", ".", "."}, {"../..", "..", ".."}, {"/.", "/", "."}, {"./a", ".", "a"},
		{"\x00/\xff", "\x00", "\xff"}, {" / ", " ", " "},
		{repeat("n", api.MaxPath+1) + "/m", repeat("n", api.MaxPath+1), "m"},
		{repeat("/", 100000) + "a" + repeat("/", 100000), "/", "a"},
	} {
		if got := Dir(x.s); got != x.dir {
			t.Errorf("Dir(%.20q) = %.20q, not %.20q", x.s, got, x.dir)
		}
		if got := Base(x.s); got != x.base {
			t.Errorf("Base(%.20q) = %.20q, not %.20q", x.s, got, x.base)
		}
	}
}

func TestBaseAndDirOfShortTexts(t *testing.T) {
	slashes := regexp.MustCompile(`\A/+\z`)
	alone := regexp.MustCompile(`\A([^/]*)/*\z`)
	belowRoot := regexp.MustCompile(`\A/+([^/]+)/*\z`)
	below := regexp.MustCompile(`(?s)\A(.*[^/])/+([^/]+)/*\z`)
	shortTexts(func(s string) {
		var dir, base string
		if slashes.MatchString(s) {
			dir, base = "/", "/"
		} else if m := alone.FindStringSubmatch(s); m != nil {
			dir, base = ".", m[1]
		} else if m := belowRoot.FindStringSubmatch(s); m != nil {
			dir, base = "/", m[1]
		} else {
			m := below.FindStringSubmatch(s)
			dir, base = m[1], m[2]
		}
		if gotDir, gotBase := Dir(s), Base(s); gotDir != dir || gotBase != base {
			t.Errorf("Dir, Base of %q: %q, %q, not %q, %q", s, gotDir, gotBase, dir, base)
		}
	})
}

// P2.3

func TestJoin(t *testing.T) {
	for _, x := range []struct{ dir, name, want string }{
		{"", "", ""}, {"", "a", "a"}, {"", "/a", "/a"}, {"a", "", "a/"}, {"a/", "", "a/"}, {"/", "", "/"},
		{"a", "b", "a/b"}, {"a/", "b", "a/b"}, {"a//", "b", "a//b"}, {"/", "b", "/b"}, {"//", "b", "//b"},
		{"a", "/b", "a//b"}, {"a/", "/b", "a//b"}, {"a", "b/c", "a/b/c"}, {".", "..", "./.."}, {"\x00", "\xff", "\x00/\xff"},
		{repeat("n", api.MaxPath), "m", repeat("n", api.MaxPath) + "/m"},
	} {
		if got := Join(x.dir, x.name); got != x.want {
			t.Errorf("Join(%.20q, %.20q) = %.20q", x.dir, x.name, got)
		}
	}
}

func TestJoinOfDirAndBase(t *testing.T) {
	shortTexts(func(s string) {
		if Plain(s) && Dir(s) != "." && Join(Dir(s), Base(s)) != s {
			t.Errorf("Join(%q, %q) isn't %q", Dir(s), Base(s), s)
		}
	})
}

func TestUnder(t *testing.T) {
	for _, x := range []struct {
		s, dir string
		want   bool
	}{
		{"a/b", "a", true}, {"a/b/c", "a", true}, {"a/b/c", "a/b", true}, {"a/", "a", true}, {"a//b", "a", true}, {"a//b", "a/", true},
		{"a", "a", false}, {"ab", "a", false}, {"ab/c", "a", false}, {"a", "a/b", false}, {"a/b", "a/b", false}, {"a/b", "b", false},
		{"c/a/b", "a", false}, {"a/b", "a/", false}, {"A/b", "a", false},
		{"/a", "", true}, {"a", "", false}, {"", "", false}, {"", "a", false}, {"/a", "/", false}, {"//a", "/", true},
		{"\x00/a", "\x00", true}, {"\xff/a", "\xfe", false},
	} {
		if got := Under(x.s, x.dir); got != x.want {
			t.Errorf("Under(%q, %q) = %v", x.s, x.dir, got)
		}
	}
}

func TestAbove(t *testing.T) {
	for _, x := range []struct {
		s    string
		want []string
	}{
		{"", nil}, {"a", nil}, {"a/b", []string{"a"}}, {"a/b/c", []string{"a", "a/b"}}, {"a/b/c/d", []string{"a", "a/b", "a/b/c"}},
		{"a/", []string{"a"}}, {"/", []string{""}}, {"/a", []string{""}}, {"//", []string{"", "/"}}, {"a//b", []string{"a", "a/"}},
		{"\x00/\xff/", []string{"\x00", "\x00/\xff"}}, {"./..", []string{"."}},
	} {
		if got := Above(x.s); !slices.Equal(got, x.want) {
			t.Errorf("Above(%q) = %q", x.s, got)
		}
	}
	if got := Above(repeat("n/", 2047) + "n"); len(got) != 2047 || got[2046] != repeat("n/", 2046)+"n" {
		t.Errorf("above 2047 slashes are %d", len(got))
	}
}

func TestAboveAndUnderOfShortTexts(t *testing.T) {
	shortTexts(func(s string) {
		var want []string
		for n := range len(s) + 1 {
			dir := s[:n]
			under := strings.HasPrefix(s, dir+"/")
			if under {
				want = append(want, dir)
			}
			if Under(s, dir) != under {
				t.Errorf("Under(%q, %q) isn't %v", s, dir, under)
			}
		}
		if got := Above(s); !slices.Equal(got, want) {
			t.Errorf("Above(%q) = %q, not %q", s, got, want)
		}
	})
}
