package quote

import (
	"math/rand"
	"regexp"
	"slices"
	"strconv"
	"strings"
	"testing"

	"seabag/api"
)

const safeBytes = "abcdefghijklmnopqrstuvwxyzABCDEFGHIJKLMNOPQRSTUVWXYZ0123456789_./,+-:@"

func repeat(s string, n int) string { return strings.Repeat(s, n) }

// short is a text that a failing test can show.
func short(s string) string {
	if len(s) > 200 {
		return strconv.Quote(s[:200]) + ".. (" + strconv.Itoa(len(s)) + " bytes)"
	}
	return strconv.Quote(s)
}

func byChance(r *rand.Rand, n int) string {
	b := make([]byte, n)
	r.Read(b)
	return string(b)
}

// pick is a text of so many pieces.
func pick(r *rand.Rand, n int, pieces ...string) string {
	var s strings.Builder
	for range n {
		s.WriteString(pieces[r.Intn(len(pieces))])
	}
	return s.String()
}

// everyText calls f with all texts of these letters, up to so many.
func everyText(letters string, most int, f func(s string)) {
	level := []string{""}
	for range most + 1 {
		var next []string
		for _, s := range level {
			f(s)
			for i := range len(letters) {
				next = append(next, s+letters[i:i+1])
			}
		}
		level = next
	}
}

// The model: a quoted word is matched whole, and its pieces are found in it.
var (
	modelBare  = regexp.MustCompile(`\A[a-zA-Z0-9_./,+\-:@]+\z`)
	modelWhole = regexp.MustCompile(`\A(?:'[^']*'|\\'|[a-zA-Z0-9_./,+\-:@])+\z`)
	modelPiece = regexp.MustCompile(`'[^']*'|\\'|[a-zA-Z0-9_./,+\-:@]`)
)

func modelSingle(s string) string {
	return "'" + strings.Join(strings.Split(s, "'"), `'\''`) + "'"
}

func modelWord(s string) string {
	if modelBare.MatchString(s) {
		return s
	}
	return modelSingle(s)
}

func modelRead(q string) (string, api.Errno) {
	if !modelWhole.MatchString(q) {
		return "", api.ErrForm
	}
	word := ""
	for _, piece := range modelPiece.FindAllString(q, -1) {
		switch piece[0] {
		case '\'':
			word += piece[1 : len(piece)-1]
		case '\\':
			word += "'"
		default:
			word += piece
		}
	}
	return word, api.OK
}

func checkRead(t *testing.T, q, want string, e api.Errno) {
	t.Helper()
	if s, g := Read(q); s != want || g != e {
		t.Errorf("Read of %s: %s %d, want %s %d", short(q), short(s), g, short(want), e)
	}
}

// checkAll holds all calls against the model, at one word.
func checkAll(t *testing.T, s string) {
	t.Helper()
	if b, want := Bare(s), modelBare.MatchString(s); b != want {
		t.Errorf("Bare of %s: %v, want %v", short(s), b, want)
	}
	if q, want := Single(s), modelSingle(s); q != want {
		t.Errorf("Single of %s: %s, want %s", short(s), short(q), short(want))
	}
	if q, want := Word(s), modelWord(s); q != want {
		t.Errorf("Word of %s: %s, want %s", short(s), short(q), short(want))
	}
	if q, want := Words(s), modelWord(s); q != want {
		t.Errorf("Words of %s: %s, want %s", short(s), short(q), short(want))
	}
	checkRead(t, Single(s), s, api.OK)
	checkRead(t, Word(s), s, api.OK)
}

// P11.1: each byte is safe or not, alone and among safe ones.
func TestEachByte(t *testing.T) {
	for b := range 256 {
		s := string([]byte{byte(b)})
		safe := strings.Contains(safeBytes, s)
		for _, w := range []string{s, s + s, s + "a", "a" + s, "a" + s + "a", "0-/" + s + "_Z"} {
			if Bare(w) != safe {
				t.Errorf("Bare of %q: %v", w, !safe)
			}
			if q := Word(w); safe != (q == w) {
				t.Errorf("Word of %q: %q", w, q)
			}
			checkAll(t, w)
		}
		single := "'" + s + "'"
		if s == "'" {
			single = `''\'''`
		}
		if q := Single(s); q != single {
			t.Errorf("Single of %q: %q, want %q", s, q, single)
		}
	}
}

// P11.1: an empty word isn't bare.
func TestEmptyWord(t *testing.T) {
	if Bare("") {
		t.Error("Bare of nothing: true")
	}
	if q := Single(""); q != "''" {
		t.Errorf("Single of nothing: %q", q)
	}
	if q := Word(""); q != "''" {
		t.Errorf("Word of nothing: %q", q)
	}
	checkAll(t, "")
}

// P11.1: all safe bytes at once are bare; with any other one among them, wherever, they aren't.
func TestBareLong(t *testing.T) {
	for _, s := range []string{safeBytes, repeat(safeBytes, 50)} {
		if !Bare(s) || Word(s) != s {
			t.Errorf("%s isn't bare", short(s))
		}
	}
	for at := range len(safeBytes) + 1 {
		for _, b := range []string{" ", "'", "\x00", "\xff", "=", "~", "\n"} {
			s := safeBytes[:at] + b + safeBytes[at:]
			if Bare(s) || Word(s) == s {
				t.Errorf("%q is bare", s)
			}
			checkAll(t, s)
		}
	}
}

// P11.1: known words. What those without a byte 0 become was read as these words by dash and by bash.
func TestKnownWords(t *testing.T) {
	for s, want := range map[string]string{
		"it's":                 `'it'\''s'`,
		"'":                    `''\'''`,
		"''":                   `''\'''\'''`,
		"'a'":                  `''\''a'\'''`,
		"a'":                   `'a'\'''`,
		"'a":                   `''\''a'`,
		`\'`:                   `'\'\'''`,
		`\`:                    `'\'`,
		`"`:                    `'"'`,
		"a":                    "a",
		"-n":                   "-n",
		"--":                   "--",
		"./-n":                 "./-n",
		"a.b_c-d+e,f:g@h/i":    "a.b_c-d+e,f:g@h/i",
		"a b":                  "'a b'",
		" ":                    "' '",
		"\t":                   "'\t'",
		"a\n":                  "'a\n'",
		"\n\n":                 "'\n\n'",
		"x=1":                  "'x=1'",
		"~":                    "'~'",
		"~a":                   "'~a'",
		"$x":                   "'$x'",
		"$(x)":                 "'$(x)'",
		"`x`":                  "'`x`'",
		"*":                    "'*'",
		"?":                    "'?'",
		"[a]":                  "'[a]'",
		"{a,b}":                "'{a,b}'",
		"#a":                   "'#a'",
		"a#":                   "'a#'",
		"!":                    "'!'",
		"a^b":                  "'a^b'",
		"100%":                 "'100%'",
		"a&b;c|d<e>f(g)":       "'a&b;c|d<e>f(g)'",
		"\u00e9":               "'\u00e9'",
		"\xff\x80":             "'\xff\x80'",
		"\x7f":                 "'\x7f'",
		"a\x00b":               "'a\x00b'",
		"if":                   "if",
		"a\r\n":                "'a\r\n'",
		repeat("'", 100) + "x": "'" + repeat(`'\''`, 100) + "x'",
	} {
		if q := Word(s); q != want {
			t.Errorf("Word of %q: %q, want %q", s, q, want)
		}
		checkAll(t, s)
	}
}

// P11.1: Single puts bare words between quotes, too.
func TestSingleOfBareWords(t *testing.T) {
	for s, want := range map[string]string{"a": "'a'", "0": "'0'", "-": "'-'", "a/b": "'a/b'", safeBytes: "'" + safeBytes + "'"} {
		if q := Single(s); q != want {
			t.Errorf("Single of %q: %q, want %q", s, q, want)
		}
	}
}

// P11.1: a blank stands between each two words, and nowhere else.
func TestWords(t *testing.T) {
	for _, c := range []struct {
		want  string
		words []string
	}{
		{"", nil},
		{"", []string{}},
		{"''", []string{""}},
		{"'' ''", []string{"", ""}},
		{"a", []string{"a"}},
		{"' '", []string{" "}},
		{"a b", []string{"a", "b"}},
		{"'a b'", []string{"a b"}},
		{"a '' 'b c'", []string{"a", "", "b c"}},
		{`ln -s -- -n 'it'\''s'`, []string{"ln", "-s", "--", "-n", "it's"}},
		{"'\n' '\n'", []string{"\n", "\n"}},
		{"'\x00' x '\xff'", []string{"\x00", "x", "\xff"}},
		{"b a b", []string{"b", "a", "b"}},
	} {
		if q := Words(c.words...); q != c.want {
			t.Errorf("Words of %q: %q, want %q", c.words, q, c.want)
		}
	}
	if q := Words(); q != "" {
		t.Errorf("Words of none: %q", q)
	}
}

// P11.1: lists by chance; where a blank stands outside of all quotes, a word ends.
func TestWordsByChance(t *testing.T) {
	r := rand.New(rand.NewSource(111))
	for range 2000 {
		var words, quoted []string
		for range r.Intn(8) {
			s := pick(r, r.Intn(6), "a", "b/c", "'", " ", "\\", "\n", "", "$", "\x00", "\xfe")
			words = append(words, s)
			quoted = append(quoted, modelWord(s))
		}
		q := Words(words...)
		if want := strings.Join(quoted, " "); q != want {
			t.Fatalf("Words of %q: %q, want %q", words, q, want)
		}
		if got := cutWords(t, q); !slices.Equal(got, words) {
			t.Fatalf("%q was read as %q, want %q", q, got, words)
		}
	}
}

// cutWords reads the words between which blanks stand.
func cutWords(t *testing.T, q string) []string {
	t.Helper()
	if q == "" {
		return nil
	}
	var words []string
	from, open := 0, false
	for i := range len(q) + 1 {
		if i == len(q) || q[i] == ' ' && !open {
			s, e := Read(q[from:i])
			if e != api.OK {
				t.Fatalf("Read of %q: %d", q[from:i], e)
			}
			words = append(words, s)
			from = i + 1
		} else if q[i] == '\'' && (open || i == 0 || q[i-1] != '\\') {
			open = !open
		}
	}
	return words
}

// P11.1: known quoted words of several pieces. Those without a byte 0 were read as these words by dash and by bash.
func TestReadKnown(t *testing.T) {
	for q, want := range map[string]string{
		"''":                  "",
		"''''":                "",
		"''a''":               "a",
		"'a'":                 "a",
		"'a'b":                "ab",
		"a'b'":                "ab",
		"'a''b'":              "ab",
		"'a b'c' d'":          "a bc d",
		`\'`:                  "'",
		`\'\'`:                "''",
		`a\'b`:                "a'b",
		`\'' '\'`:             "' '",
		`'a'b\''c d'`:         "ab'c d",
		`'\'`:                 `\`,
		`'\\'`:                `\\`,
		`'\'\'`:               `\'`,
		`'"'`:                 `"`,
		"'\n'":                "\n",
		"a'\n'b":              "a\nb",
		"'\x00\xff'":          "\x00\xff",
		"'\xff\x80'":          "\xff\x80",
		"'$x `y` #'":          "$x `y` #",
		"-n":                  "-n",
		"a.b_c-d+e,f:g@h/i":   "a.b_c-d+e,f:g@h/i",
		safeBytes:             safeBytes,
		"'" + safeBytes + "'": safeBytes,
	} {
		checkRead(t, q, want, api.OK)
	}
}

// P11.1: texts that are no quoted words, though a shell may take some of them.
func TestReadWrong(t *testing.T) {
	checkRead(t, "", "", api.ErrForm)
	for _, q := range []string{
		"'", "'''", "'a", "a'", "'a'b'", `\''`, `'\`, `'a\''`,
		`\`, `a\`, `'a'\`, `\a`, `\\`, `\ `, `\"`, "\\\n", "a\\\nb", "\\\x00",
		" ", "a b", " a", "a ", "'a' 'b'", "'a' ", "\t", "\n", "a\n", "'a'\n", "\r",
		`"a"`, `""`, `a"`, "`", "`a`",
		"$", "$x", "$'a'", "~", "a=b", "#", "*", "?", "[", "]", "{", "}", "!", "%", "^", ";", "&", "|", "<", ">", "(", ")",
		"\x00", "a\x00", "\x7f", "\x80", "\xff", "\u00e9", "a\u00e9", "'a'\u00e9", "\u2019",
	} {
		checkRead(t, q, "", api.ErrForm)
		checkRead(t, q+"x", "", api.ErrForm)
		checkRead(t, "'a b'"+q, "", api.ErrForm)
	}
}

// P11.1: each byte as a piece of its own, between quotes, and behind a backslash.
func TestReadEachByte(t *testing.T) {
	for b := range 256 {
		s := string([]byte{byte(b)})
		for around, word := range map[string]string{"": "", "x": "x", "''": "", "'\n'": "\n", `\'`: "'"} {
			if strings.Contains(safeBytes, s) {
				checkRead(t, s+around, s+word, api.OK)
				checkRead(t, around+s, word+s, api.OK)
			} else if s != "'" && s != "\\" {
				checkRead(t, s+around, "", api.ErrForm)
				checkRead(t, around+s, "", api.ErrForm)
				checkRead(t, around+s+around, "", api.ErrForm)
			}
			if s != "'" {
				checkRead(t, around+"'"+s+"'", word+s, api.OK)
				checkRead(t, "'"+s+"'"+around, s+word, api.OK)
				checkRead(t, around+"\\"+s, "", api.ErrForm)
				checkRead(t, "\\"+s+around, "", api.ErrForm)
			}
		}
	}
}

// P11.1: all short texts of a few letters.
func TestEveryShortText(t *testing.T) {
	everyText("'\\a $\xff", 6, func(q string) {
		want, e := modelRead(q)
		checkRead(t, q, want, e)
	})
	everyText("'\\a\n", 7, func(s string) { checkAll(t, s) })
}

// P11.1: quoted words by chance, of many pieces, and these broken off, or with a byte changed, lost, or put in.
func TestReadByChance(t *testing.T) {
	r := rand.New(rand.NewSource(11))
	for range 5000 {
		q, word := "", ""
		for range 1 + r.Intn(12) {
			switch r.Intn(4) {
			case 0:
				s := strings.ReplaceAll(byChance(r, r.Intn(8)), "'", "")
				q, word = q+"'"+s+"'", word+s
			case 1:
				q, word = q+`\'`, word+"'"
			default:
				at := r.Intn(len(safeBytes))
				q, word = q+safeBytes[at:at+1], word+safeBytes[at:at+1]
			}
		}
		checkRead(t, q, word, api.OK)
		at := r.Intn(len(q))
		for _, other := range []string{q[:at], q[at:], q[:at] + q[at+1:], q[:at] + byChance(r, 1) + q[at+1:], q[:at] + "'" + q[at:]} {
			want, e := modelRead(other)
			checkRead(t, other, want, e)
		}
	}
}

// P11.1: what Single and Word tell is read as it was; broken off it is another word, or none.
func TestAndBack(t *testing.T) {
	r := rand.New(rand.NewSource(112))
	for n := range 1500 {
		s := byChance(r, n%90)
		if n%2 == 0 {
			s = pick(r, n%40, "'", "''", "\\", "a", "Z", "9", " ", "\n", "\x00", "@", "$(", "\"", "\xff")
		}
		checkAll(t, s)
		q := Single(s)
		for at := range len(q) {
			want, e := modelRead(q[:at])
			checkRead(t, q[:at], want, e)
		}
	}
}

// P1 and P11.1: long words, and many.
func TestLong(t *testing.T) {
	const n = 1 << 22
	for _, piece := range []string{"a", "'", " ", "\\", "\x00", "a'"} {
		s := repeat(piece, n/len(piece))
		want := s
		if piece != "a" {
			want = "'" + strings.ReplaceAll(s, "'", `'\''`) + "'"
		}
		q := Word(s)
		if q != want {
			t.Errorf("Word of many %q: %s", piece, short(q))
		}
		checkRead(t, q, s, api.OK)
		checkRead(t, q+"'", "", api.ErrForm)
		checkRead(t, q+" ", "", api.ErrForm)
	}
	checkRead(t, repeat("''", n), "", api.OK)
	checkRead(t, repeat(`\'`, n), repeat("'", n), api.OK)
	words := make([]string, n/8)
	if q := Words(words...); q != repeat("'' ", n/8-1)+"''" {
		t.Errorf("Words of many empty ones: %s", short(q))
	}
}

// The rules that hold everywhere: a list that is handed in stays as it is, its spare room too, and nothing of it is kept.
func TestListsStayTheirs(t *testing.T) {
	whole := []string{"x", "a b", "", "c", "y'z", "w"}
	before := slices.Clone(whole)
	q := Words(whole[1:4]...)
	if !slices.Equal(whole, before) {
		t.Errorf("the list became %q", whole)
	}
	for i := range whole {
		whole[i] = "other"
	}
	if q != "'a b' '' c" {
		t.Errorf("what was told became %q", q)
	}
	if q := Words("d", "e f"); q != "d 'e f'" {
		t.Errorf("what was told behind it: %q", q)
	}
}
