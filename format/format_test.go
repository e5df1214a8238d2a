package format

import (
	"math/big"
	"math/rand"
	"regexp"
	"slices"
	"strconv"
	"strings"
	"testing"

	"seabag/api"
)

func repeat(s string, n int) string { return strings.Repeat(s, max(n, 0)) }

// short is a text that a failing test can show.
func short(s string) string {
	if len(s) > 200 {
		return strconv.Quote(s[:200]) + ".. (" + strconv.Itoa(len(s)) + " bytes)"
	}
	return strconv.Quote(s)
}

func byChance(r *rand.Rand, n int) string {
	b := make([]byte, n)
	r.Read(b)
	return string(b)
}

// pick is a text of so many pieces.
func pick(r *rand.Rand, n int, pieces ...string) string {
	s := ""
	for range n {
		s += pieces[r.Intn(len(pieces))]
	}
	return s
}

// The model: one regular expression a thing that a text may begin with.
var (
	modelEscape = regexp.MustCompile(`(?s)\A\\(?:[\\abfnrtv]|[0-7]{1,3})`)
	modelPlace  = regexp.MustCompile(`\A%([-0]*)([0-9]{0,3})(\.[0-9]{0,3})?([%sbcdiouxX])`)
	modelDigits = regexp.MustCompile(`\A[-+]?[0-9]+\z`)
)

func modelByte(escape string) string {
	switch escape {
	case `\\`:
		return "\x5c"
	case `\a`:
		return "\x07"
	case `\b`:
		return "\x08"
	case `\f`:
		return "\x0c"
	case `\n`:
		return "\x0a"
	case `\r`:
		return "\x0d"
	case `\t`:
		return "\x09"
	case `\v`:
		return "\x0b"
	}
	n, _ := strconv.ParseInt(escape[1:], 8, 64)
	return string([]byte{byte(n % 256)})
}

func modelUnescape(s string) string {
	var out strings.Builder
	for s != "" {
		if m := modelEscape.FindString(s); m != "" {
			out.WriteString(modelByte(m))
			s = s[len(m):]
			continue
		}
		out.WriteString(s[:1])
		s = s[1:]
	}
	return out.String()
}

func modelEscaped(s string) string {
	out := ""
	for _, b := range []byte(s) {
		if b < 0x20 || b > 0x7e || b == '%' || b == '\\' || b == '\'' {
			out += "\\" + strconv.FormatInt(int64(b)|0o1000, 8)[1:]
		} else {
			out += string(rune(b))
		}
	}
	return out
}

func modelNumber(arg string) (*big.Int, bool) {
	n := new(big.Int)
	switch {
	case arg == "":
		return n, true
	case len(arg) == 2 && (arg[0] == '\'' || arg[0] == '"'):
		return n.SetInt64(int64(arg[1])), true
	case !modelDigits.MatchString(arg):
		return nil, false
	}
	n.SetString(strings.TrimPrefix(arg, "+"), 10)
	low := new(big.Int).Lsh(big.NewInt(-1), 63)
	high := new(big.Int).Lsh(big.NewInt(1), 63)
	return n, n.Cmp(low) >= 0 && n.Cmp(high) < 0
}

// modelDigitsOf are a number's sign, and its digits.
func modelDigitsOf(letter string, n *big.Int) (string, string) {
	if letter == "d" || letter == "i" {
		if n.Sign() < 0 {
			return "-", new(big.Int).Neg(n).Text(10)
		}
		return "", n.Text(10)
	}
	n = new(big.Int).Mod(n, new(big.Int).Lsh(big.NewInt(1), 64))
	base := map[string]int{"o": 8, "u": 10, "x": 16, "X": 16}[letter]
	if letter == "X" {
		return "", strings.ToUpper(n.Text(base))
	}
	return "", n.Text(base)
}

// modelFill is what the place m tells of an argument.
func modelFill(m []string, arg string) (string, bool) {
	width, _ := strconv.Atoi("0" + m[2])
	precision := -1
	if m[3] != "" {
		precision, _ = strconv.Atoi("0" + m[3][1:])
	}
	sign, body := "", arg
	number := strings.Contains("diouxX", m[4])
	switch {
	case m[4] == "c" && arg != "":
		body = arg[:1]
	case m[4] == "b" || m[4] == "s":
		if m[4] == "b" {
			body = modelUnescape(arg)
		}
		if precision >= 0 && precision < len(body) {
			body = body[:precision]
		}
	case number:
		n, ok := modelNumber(arg)
		if !ok {
			return "", false
		}
		sign, body = modelDigitsOf(m[4], n)
		body = repeat("0", precision-len(body)) + body
	}
	more := width - len(sign+body)
	switch {
	case strings.Contains(m[1], "-"):
		return sign + body + repeat(" ", more), true
	case strings.Contains(m[1], "0") && number && precision < 0:
		return sign + repeat("0", more) + body, true
	}
	return repeat(" ", more) + sign + body, true
}

func modelFormat(f string, args ...string) (string, api.Errno) {
	var out strings.Builder
	for {
		takes := false
		for s := f; s != ""; {
			if m := modelEscape.FindString(s); m != "" {
				out.WriteString(modelByte(m))
				s = s[len(m):]
				continue
			}
			if s[0] != '%' {
				out.WriteString(s[:1])
				s = s[1:]
				continue
			}
			m := modelPlace.FindStringSubmatch(s)
			if m == nil {
				return "", api.ErrForm
			}
			s = s[len(m[0]):]
			if m[4] == "%" {
				out.WriteString("%")
				continue
			}
			takes = true
			arg := ""
			if len(args) > 0 {
				arg, args = args[0], args[1:]
			}
			t, ok := modelFill(m, arg)
			if !ok {
				return "", api.ErrNumber
			}
			out.WriteString(t)
		}
		if out.Len() > 1<<22 {
			return "", api.ErrLong
		}
		if !takes || len(args) == 0 {
			return out.String(), api.OK
		}
	}
}

func checkFormat(t *testing.T, f string, args []string, want string, e api.Errno) {
	t.Helper()
	if s, g := Format(f, args...); s != want || g != e {
		t.Errorf("Format of %s, %.300q: %s %d, want %s %d", short(f), args, short(s), g, short(want), e)
	}
}

func checkModel(t *testing.T, f string, args ...string) {
	t.Helper()
	want, e := modelFormat(f, args...)
	checkFormat(t, f, args, want, e)
}

// P10.1: each byte stands for itself, or as a backslash and three octal digits.
func TestEscapeEachByte(t *testing.T) {
	themselves := " !\"#$&()*+,-./0123456789:;<=>?@ABCDEFGHIJKLMNOPQRSTUVWXYZ[]^_`abcdefghijklmnopqrstuvwxyz{|}~"
	for b := range 256 {
		s := string([]byte{byte(b)})
		want := "\\" + strconv.FormatInt(int64(b)+512, 8)[1:]
		if strings.Contains(themselves, s) {
			want = s
		}
		if f := Escape(s); f != want {
			t.Errorf("Escape of the byte %d: %q, want %q", b, f, want)
		}
		if n := Escaped(s); n != len(want) {
			t.Errorf("Escaped of the byte %d: %d, want %d", b, n, len(want))
		}
		checkFormat(t, Escape(s), nil, s, api.OK)
	}
}

// P10.1: known texts.
func TestEscapeKnown(t *testing.T) {
	for s, want := range map[string]string{
		"":                     "",
		"plain words, 12":      "plain words, 12",
		"a\nb\n":               `a\012b\012`,
		"100% isn't \\n":       `100\045 isn\047t \134n`,
		"\x00\x01\x1f ~\x7f":   `\000\001\037 ~\177`,
		"\x80\xc3\xa9\xff":     `\200\303\251\377`,
		"\x001":                `\0001`,
		"%s%d":                 `\045s\045d`,
		"\"`$HOME`\"":          "\"`$HOME`\"",
		"-n\t--":               `-n\011--`,
		"\a\b\f\n\r\t\v\\'%":   `\007\010\014\012\015\011\013\134\047\045`,
		repeat("'", 300) + "x": repeat(`\047`, 300) + "x",
	} {
		if f := Escape(s); f != want {
			t.Errorf("Escape of %q: %q, want %q", s, f, want)
		}
		if n := Escaped(s); n != len(want) {
			t.Errorf("Escaped of %q: %d, want %d", s, n, len(want))
		}
	}
}

// P10.1: Format of what Escape tells, and Unescape of it, are the text again.
func TestEscapeAndBack(t *testing.T) {
	r := rand.New(rand.NewSource(10))
	for range 3000 {
		s := byChance(r, r.Intn(80))
		if r.Intn(2) == 0 {
			s = pick(r, r.Intn(20), "\\", "0", "7", "8", "%", "s", "'", "n", "\n", " ", "~", "\x00", "\xff", "\x7f")
		}
		f := Escape(s)
		if want := modelEscaped(s); f != want || Escaped(s) != len(want) {
			t.Fatalf("Escape of %q: %q, Escaped %d, want %q", s, f, Escaped(s), want)
		}
		checkFormat(t, f, nil, s, api.OK)
		if u := Unescape(f); u != s {
			t.Fatalf("Unescape of %q: %q, want %q", f, u, s)
		}
	}
}

// P10.1: it is so up to MaxFile bytes; with one more Format has an error, but Escape and Unescape don't.
func TestEscapeLong(t *testing.T) {
	for _, piece := range []string{"x", "\x00", "%", "'\n"} {
		s := repeat(piece, api.MaxFile/len(piece))
		checkFormat(t, Escape(s), nil, s, api.OK)
		s += "y"
		f := Escape(s)
		checkFormat(t, f, nil, "", api.ErrLong)
		if Escaped(s) != len(f) || Unescape(f) != s {
			t.Errorf("a text of %q, one byte too long for Format, isn't told by Escape", piece)
		}
	}
}

// P10.1: what each byte behind a backslash stands for.
func TestUnescapeEachByte(t *testing.T) {
	known := map[byte]string{'\\': "\x5c", 'a': "\x07", 'b': "\x08", 'f': "\x0c", 'n': "\x0a", 'r': "\x0d", 't': "\x09", 'v': "\x0b",
		'0': "\x00", '1': "\x01", '2': "\x02", '3': "\x03", '4': "\x04", '5': "\x05", '6': "\x06", '7': "\x07"}
	for b := range 256 {
		s := "\\" + string([]byte{byte(b)})
		want, ok := known[byte(b)]
		if !ok {
			want = s
		}
		if u := Unescape(s); u != want {
			t.Errorf("Unescape of %q: %q, want %q", s, u, want)
		}
		if u := Unescape("x" + s + "y"); u != "x"+want+"y" {
			t.Errorf("Unescape of %q: %q, want %q", "x"+s+"y", u, "x"+want+"y")
		}
		if b != '%' {
			checkFormat(t, s, nil, want, api.OK)
		}
	}
}

// P10.1: from one to three octal digits, as many as stand there, modulo 256.
func TestUnescapeOctal(t *testing.T) {
	for n := range 512 {
		all := strconv.FormatInt(int64(n)+512, 8)[1:]
		want := string([]byte{byte(n)})
		for _, digits := range []string{all, strings.TrimPrefix(all, "0"), strings.TrimLeft(all, "0")} {
			if digits == "" {
				continue
			}
			for _, next := range []string{"", "8", "9", "x", " ", "\\", "/", ":"} {
				s := "\\" + digits + next
				if u := Unescape(s); u != want+next {
					t.Errorf("Unescape of %q: %q, want %q", s, u, want+next)
				}
				checkFormat(t, s, nil, want+next, api.OK)
			}
		}
		if u := Unescape("\\" + all + "7"); u != want+"7" {
			t.Errorf("Unescape of a backslash, %s and 7: %q", all, u)
		}
	}
}

// P10.1: known texts, with backslashes beside one another and at the end.
func TestUnescapeKnown(t *testing.T) {
	for s, want := range map[string]string{
		"":             "",
		"no such byte": "no such byte",
		`\`:            `\`,
		`a\`:           `a\`,
		`\\`:           `\`,
		`\\\`:          `\\`,
		`\\\\`:         `\\`,
		`\\n`:          `\n`,
		`\\\n`:         "\\\n",
		`\\101`:        `\101`,
		`\\\101`:       `\A`,
		`\c\e\x41\u41`: `\c\e\x41\u41`,
		`\A\N\T`:       `\A\N\T`,
		`\"\'\ `:       `\"\'\ `,
		`\8\9\08\18`:   "\\8\\9\x008\x018",
		`\60\061\0062`: "01\x062",
		`\377\378`:     "\xff\x1f8",
		`\400\777`:     "\x00\xff",
		`%s\n%`:        "%s\n%",
		`\%`:           `\%`,
		"\\\n":         "\\\n",
		"\\\xff":       "\\\xff",
	} {
		if u := Unescape(s); u != want {
			t.Errorf("Unescape of %q: %q, want %q", s, u, want)
		}
	}
}

// P10.1: Unescape against regular expressions.
func TestUnescapeByChance(t *testing.T) {
	r := rand.New(rand.NewSource(11))
	for range 20000 {
		s := pick(r, r.Intn(12), "\\", "\\", "\\", "0", "1", "3", "4", "7", "8", "a", "b", "c", "n", "v", "%", "\x00", "\xff")
		if r.Intn(4) == 0 {
			s = byChance(r, r.Intn(40))
		}
		if u, want := Unescape(s), modelUnescape(s); u != want {
			t.Fatalf("Unescape of %q: %q, want %q", s, u, want)
		}
	}
}

type formatCase struct {
	f    string
	args []string
	want string
	e    api.Errno
}

func of(f, want string, args ...string) formatCase { return formatCase{f, args, want, api.OK} }

func wrong(f string, e api.Errno, args ...string) formatCase { return formatCase{f, args, "", e} }

func checkCases(t *testing.T, l []formatCase) {
	t.Helper()
	for _, x := range l {
		checkFormat(t, x.f, x.args, x.want, x.e)
		if want, e := modelFormat(x.f, x.args...); want != x.want || e != x.e {
			t.Errorf("the model of %q, %q: %q %d", x.f, x.args, want, e)
		}
	}
}

// The chapter's example.
func TestExample(t *testing.T) {
	checkFormat(t, "%3d|%-4s|%o", []string{"7", "ab", "8"}, "  7|ab  |10", api.OK)
}

// P10.2: f is told again and again, as long as arguments are left, but only once, if it takes none.
func TestAgainAndAgain(t *testing.T) {
	checkCases(t, []formatCase{
		of("", ""),
		of("", "", "a", "b"),
		of("x", "x"),
		of("x", "x", "a", "b"),
		of("%%", "%", "a", "b"),
		of(`%5%\n`, "%\n", "a"),
		of("%s", ""),
		of("%s", "", ""),
		of("%s", "abc", "a", "b", "c"),
		of("%s.", "a.b.c.", "a", "b", "c"),
		of("%s.", "...", "", "", ""),
		of("%s.", "."),
		of("%s=%s\\n", "a=1\nb=2\n", "a", "1", "b", "2"),
		of("%s=%s\\n", "a=1\nb=\n", "a", "1", "b"),
		of("%s=%d;", "a=0;", "a"),
		of("<%s%s%s>", "<abc><d>", "a", "b", "c", "d"),
		of("%d %d %x|", "1 2 3|4 0 0|", "1", "2", "3", "4"),
		of("%c", "abc", "ax", "bx", "cx"),
		of("%c%%", "a%b%", "a", "b"),
		of("%.0s", "", "a", "b", "c"),
		of("-%.0s", "---", "a", "b", "c"),
		of("%b", "a\nb", "a\\n", "b"),
	})
}

// P10.2: bytes and backslashes in a format; a backslash that stands for itself takes nothing behind it.
func TestFormatBytes(t *testing.T) {
	checkCases(t, []formatCase{
		of("plain 'words' \x00\xff\n", "plain 'words' \x00\xff\n"),
		of(`a\tb\\n\101\0\777`, "a\tb\\nA\x00\xff"),
		of(`\%s`, `\x`, "x"),
		of(`\\%s`, `\x`, "x"),
		of(`\%%`, `\%`),
		of(`\045s`, "%s", "x"),
		of(`\`, `\`),
		of(`%s\`, `x\`, "x"),
		of(`%s\q`, `x\q`, "x"),
		of(`\1%s`, "\x01234", "234"),
		of(`\12%d`, "\n3", "3"),
		wrong(`\%`, api.ErrForm),
		wrong(`%\163`, api.ErrForm, "x"),
		wrong(`%\045`, api.ErrForm),
	})
}

// P10.2: s, b and c.
func TestTexts(t *testing.T) {
	checkCases(t, []formatCase{
		of("[%s]", "[a\\tb%d]", "a\\tb%d"),
		of("[%5s]", "[   ab]", "ab"),
		of("[%-5s]", "[ab   ]", "ab"),
		of("[%05s]", "[   ab]", "ab"),
		of("[%05s]", "[   -7]", "-7"),
		of("[%-05s]", "[ab   ]", "ab"),
		of("[%0-5s]", "[ab   ]", "ab"),
		of("[%2s]", "[ab]", "ab"),
		of("[%1s]", "[ab]", "ab"),
		of("[%s]", "[]", ""),
		of("[%3s]", "[   ]", ""),
		of("[%3s]", "[   ]"),
		of("[%.2s]", "[ab]", "abc"),
		of("[%.3s]", "[abc]", "abc"),
		of("[%.4s]", "[abc]", "abc"),
		of("[%.0s]", "[]", "abc"),
		of("[%.s]", "[]", "abc"),
		of("[%5.2s]", "[   ab]", "abc"),
		of("[%-5.2s]", "[ab   ]", "abc"),
		of("[%5.s]", "[     ]", "abc"),
		of("[%.1s]", "[\xc3]", "\xc3\xa9"),
		of("[%3s]", "[ \xc3\xa9]", "\xc3\xa9"),
		of("[%4s]", "[  \x00\xff]", "\x00\xff"),
		of("[%b]", "[a\tb%d]", "a\\tb%d"),
		of("[%.2b]", "[a\t]", "a\\tb"),
		of("[%.1b]", "[A]", "\\101B"),
		of("[%.b]", "[]", "abc"),
		of("[%3b]", "[  A]", "\\101"),
		of("[%-3b]", "[A  ]", "\\101"),
		of("[%03b]", "[  1]", "1"),
		of("[%b]", "[\\]", "\\"),
		of("[%b]", "[\\q]", "\\q"),
		of("[%b]", "[\x00\x018]", "\\0\\0018"),
		of("[%b%b]", "[\\n]", "\\", "n"),
		of("[%b]", "[a\\c]", "a\\c"),
		of("[%c]", "[a]", "abc"),
		of("[%c]", "[]", ""),
		of("[%c]", "[]"),
		of("[%c]", "[\x00]", "\x00b"),
		of("[%c]", "[\xc3]", "\xc3\xa9"),
		of("[%c]", "[\\]", "\\n"),
		of("[%3c]", "[  a]", "abc"),
		of("[%-3c]", "[a  ]", "abc"),
		of("[%03c]", "[  1]", "123"),
		of("[%3c]", "[   ]", ""),
		of("[%.0c]", "[a]", "abc"),
		of("[%.2c]", "[a]", "abc"),
		of("[%.c]", "[a]", "abc"),
	})
}

// P10.2: d, i, o, u, x and X, with their flags, widths and precisions.
func TestNumbers(t *testing.T) {
	checkCases(t, []formatCase{
		of("[%d %i]", "[7 -7]", "7", "-7"),
		of("[%d %d]", "[-9223372036854775808 9223372036854775807]", "-9223372036854775808", "9223372036854775807"),
		of("[%o %u]", "[1000000000000000000000 9223372036854775808]", "-9223372036854775808", "-9223372036854775808"),
		of("[%x %X]", "[8000000000000000 7FFFFFFFFFFFFFFF]", "-9223372036854775808", "9223372036854775807"),
		of("[%o %u %x %X]", "[1777777777777777777777 18446744073709551615 ffffffffffffffff FFFFFFFFFFFFFFFF]", "-1", "-1", "-1", "-1"),
		of("[%o %u %x %X]", "[10 8 abc ABC]", "8", "8", "2748", "2748"),
		of("[%d %o %u %x %X]", "[0 0 0 0 0]"),
		of("[%5d|%-5d|%05d]", "[  -42|-42  |-0042]", "-42", "-42", "-42"),
		of("[%5i|%-5i|%05i]", "[   42|42   |00042]", "42", "42", "42"),
		of("[%-05d|%0-5d|%00005d]", "[-42  |-42  |-0042]", "-42", "-42", "-42"),
		of("[%--5d|%0d|%-d]", "[42   |42|42]", "42", "42", "42"),
		of("[%02d|%03d|%2d|%3d]", "[-42|-42|-42|-42]", "-42", "-42", "-42", "-42"),
		of("[%04d|%4d]", "[-042| -42]", "-42", "-42"),
		of("[%05o|%05u|%05x|%05X]", "[00010|00008|000ff|000FF]", "8", "8", "255", "255"),
		of("[%5o|%5u|%5x|%5X]", "[   10|    8|   ff|   FF]", "8", "8", "255", "255"),
		of("[%-5o|%-5u|%-5x|%-5X]", "[10   |8    |ff   |FF   ]", "8", "8", "255", "255"),
		of("[%.3d|%.3d|%.1d|%.0d|%.d]", "[007|-007|-7|-7|-7]", "7", "-7", "-7", "-7", "-7"),
		of("[%.0d|%.d|%.1d|%.2d]", "[0|0|0|00]", "0", "0", "0", "0"),
		of("[%.3i|%.3o|%.3u|%.3x|%.3X]", "[007|010|008|00f|00F]", "7", "8", "8", "15", "15"),
		of("[%6.3d|%-6.3d|%06.3d|%-06.3d]", "[  -007|-007  |  -007|-007  ]", "-7", "-7", "-7", "-7"),
		of("[%06.d|%06.0x]", "[    -7|     f]", "-7", "15"),
		of("[%3.6d]", "[-000007]", "-7"),
		of("[%06.3X]", "[   00F]", "15"),
		of("[%3d]", "[  0]", ""),
		of("[%03d]", "[000]"),
		of("[%03d]", "[000]", "-0"),
		of("[%999d]", "["+repeat(" ", 998)+"5]", "5"),
		of("[%0999d]", "[-"+repeat("0", 997)+"5]", "-5"),
		of("[%.999d]", "[-"+repeat("0", 998)+"5]", "-5"),
		of("[%999.999x]", "["+repeat("0", 998)+"f]", "15"),
		of("[%-999.998x]", "["+repeat("0", 997)+"f ]", "15"),
	})
}

// P10.2: what the number of an argument is, and what is none.
func TestArgumentNumbers(t *testing.T) {
	for arg, want := range map[string]string{
		"": "0", "0": "0", "-0": "0", "+0": "0", "00": "0", "007": "7", "010": "10", "-010": "-10", "+5": "5", "-5": "-5",
		"'A": "65", "\"A": "65", "''": "39", "'\"": "34", "\"'": "39", "\"\"": "34", "'0": "48", "'-": "45", "'\x00": "0", "'\xff": "255", "\"\x80": "128", "' ": "32", "'\n": "10",
		"9223372036854775807": "9223372036854775807", "+9223372036854775807": "9223372036854775807", "-9223372036854775808": "-9223372036854775808",
		repeat("0", 1000) + "12": "12", "-" + repeat("0", 1000) + "9223372036854775808": "-9223372036854775808",
	} {
		checkFormat(t, "%d", []string{arg}, want, api.OK)
		checkFormat(t, "%i", []string{arg}, want, api.OK)
		checkModel(t, "%o %u %x %X", arg, arg, arg, arg)
	}
	for _, arg := range []string{"x", "-", "+", "--1", "+-1", "-+1", "++1", " 1", "1 ", "1\n", "\t1", "1x", "x1", "0x10", "0b1", "0o7", "1e3", "1.0", "1.", ".5", "1_000", "_1", "1,000", "1\x00", "\x00",
		"'", "\"", "'AB", "\"AB", "A'", "'AA", "-'A", "+\"A", "'12", "''1", "\xd9\xa1", "'\xc3\xa9", "inf", "nan", "%d", "a",
		"9223372036854775808", "+9223372036854775808", "-9223372036854775809", "18446744073709551615", "18446744073709551616", "18446744073709551617", "-18446744073709551616", repeat("9", 100)} {
		for _, f := range []string{"%d", "%i", "%o", "%u", "%x", "%X", "%5d", "%-5.3x", "%.0o"} {
			checkFormat(t, f, []string{arg}, "", api.ErrNumber)
		}
		for _, f := range []string{"%s", "%b", "%c"} {
			checkModel(t, f, arg)
		}
	}
	for b := range 256 {
		s := string([]byte{byte(b)})
		for _, arg := range []string{s, s + "1", "1" + s, "'" + s, "\"" + s, s + "'", "'" + s + "1"} {
			checkModel(t, "%d", arg)
			checkModel(t, "%X", arg)
		}
	}
}

// P10.2: where a % is a place's, and where it is none's.
func TestPlaces(t *testing.T) {
	for b := range 256 {
		letter := string([]byte{byte(b)})
		for _, ahead := range []string{"%", "%-", "%0", "%5", "%05", "%-5", "%.", "%.2", "%5.", "%123.456", "%-0-0", "%123", "%.123"} {
			checkModel(t, ahead+letter, "1")
			checkModel(t, "x"+ahead+letter+"s", "1", "2")
			if !strings.Contains("-.0123456789%sbcdiouxX", letter) {
				checkFormat(t, ahead+letter, []string{"1"}, "", api.ErrForm)
			}
		}
	}
	checkCases(t, []formatCase{
		wrong("%", api.ErrForm), wrong("x%", api.ErrForm), wrong("%%%", api.ErrForm), wrong("%-", api.ErrForm), wrong("%0", api.ErrForm), wrong("%5", api.ErrForm), wrong("%.", api.ErrForm), wrong("%5.3", api.ErrForm),
		wrong("%1234d", api.ErrForm, "1"), wrong("%.1234d", api.ErrForm, "1"), wrong("%01234d", api.ErrForm, "1"), wrong("%-1000s", api.ErrForm, "1"), wrong("%1234%", api.ErrForm),
		wrong("%5-d", api.ErrForm, "1"), wrong("%.-5d", api.ErrForm, "1"), wrong("%..5d", api.ErrForm, "1"), wrong("%5.3.1d", api.ErrForm, "1"), wrong("%.3-d", api.ErrForm, "1"),
		wrong("%+d", api.ErrForm, "1"), wrong("% d", api.ErrForm, "1"), wrong("%#x", api.ErrForm, "1"), wrong("%'d", api.ErrForm, "1"), wrong("%*d", api.ErrForm, "5", "1"), wrong("%.*s", api.ErrForm, "5", "1"), wrong("%1$s", api.ErrForm, "1"),
		wrong("%ld", api.ErrForm, "1"), wrong("%f", api.ErrForm, "1"), wrong("%e", api.ErrForm, "1"), wrong("%q", api.ErrForm, "1"), wrong("%S", api.ErrForm, "1"), wrong("%D", api.ErrForm, "1"), wrong("%O", api.ErrForm, "1"), wrong("%n", api.ErrForm, "1"), wrong("% %", api.ErrForm),
		of("%%", "%"), of("%%%%", "%%"), of("%%s", "%s", "x"), of("%5%", "%"), of("%-5%|", "%|"), of("%05%", "%"), of("%.3%", "%"), of("%-07.3%", "%"), of("%.0%", "%"), of("%999.999%", "%"),
		of("%%%d%%", "%7%", "7"),
		of("%000000000000s", "x", "x"), of("%"+repeat("-0", 500)+"3s|", "x  |", "x"), of("%"+repeat("0", 1000)+"12d", "000000000007", "7"),
		of("%0012.001s|", "           x|", "xyz"),
	})
}

// P10.2: from the left the first error is told, and what a text doesn't come to isn't looked at.
func TestErrorsFromTheLeft(t *testing.T) {
	long := repeat("x", api.MaxFile)
	checkCases(t, []formatCase{
		wrong("%d%q", api.ErrNumber, "x"),
		wrong("%q%d", api.ErrForm, "x"),
		wrong("%s%d%", api.ErrForm, "x", "1"),
		wrong("%s%d%", api.ErrNumber, "x", "y"),
		wrong("%d,", api.ErrNumber, "1", "2", "x", "3"),
		wrong("%s%d", api.ErrNumber, "x", "1", "y", "z"),
		wrong("%d%d", api.ErrNumber, "1", "2", "", "-"),
		of("%s", "x", "x"),
		of("a%s", "a%q", "%q"),
	})
	checkFormat(t, long+"y%q", nil, "", api.ErrForm)
	checkFormat(t, long+"y%d", []string{"x"}, "", api.ErrNumber)
	checkFormat(t, long+"y%d%q", []string{"x"}, "", api.ErrNumber)
	checkFormat(t, long+"y", []string{"x"}, "", api.ErrLong)
	checkFormat(t, long+"%d", []string{"1"}, "", api.ErrLong)
	checkFormat(t, long+"%d", []string{"1", "x"}, "", api.ErrLong)
	checkFormat(t, "%s%d", []string{long, "x"}, "", api.ErrNumber)
	checkFormat(t, "%s%d", []string{long, "1", "a", "x"}, "", api.ErrLong)
	checkFormat(t, "%s%.0s%d", []string{long[:1], "", "7", long[2:], "", "x"}, "", api.ErrNumber)
	checkFormat(t, "%d%s", []string{"7", long[1:], "x", ""}, "", api.ErrNumber)
}

// P10.2: MaxFile bytes may be told in all, one more may not, however they come about.
func TestLong(t *testing.T) {
	half := repeat("ab", api.MaxFile/4)
	rest := half[:len(half)-1]
	checkFormat(t, half+half, nil, half+half, api.OK)
	checkFormat(t, half+half+"c", nil, "", api.ErrLong)
	checkFormat(t, "%s", []string{half, half}, half+half, api.OK)
	checkFormat(t, "%s", []string{half, half, ""}, half+half, api.OK)
	checkFormat(t, "%s", []string{half, half, "c"}, "", api.ErrLong)
	checkFormat(t, "%s", []string{half, half, "c", ""}, "", api.ErrLong)
	checkFormat(t, "%b%s", []string{half, rest, "\\n"}, half+rest+"\n", api.OK)
	checkFormat(t, "%b%s", []string{half, rest, "\\n", "c"}, "", api.ErrLong)
	checkFormat(t, half+`\n%s`, []string{rest}, half+"\n"+rest, api.OK)
	checkFormat(t, half+`\n%s`, []string{half}, "", api.ErrLong)
	checkFormat(t, half+`%%%s`, []string{rest}, half+"%"+rest, api.OK)
	checkFormat(t, half+`%%%s`, []string{half}, "", api.ErrLong)
	checkFormat(t, half+`%3d%s`, []string{"7", rest[:len(rest)-2]}, half+"  7"+rest[:len(rest)-2], api.OK)
	checkFormat(t, half+`%3d%s`, []string{"7", rest[:len(rest)-1]}, "", api.ErrLong)
	checkFormat(t, "%.0s%s", []string{half + half + half, half}, half, api.OK)
	checkFormat(t, "%c", []string{half + half + half}, "a", api.OK)

	wide := slices.Repeat([]string{"a"}, api.MaxFile/512)
	checkFormat(t, "%512s", wide, repeat(repeat(" ", 511)+"a", len(wide)), api.OK)
	checkFormat(t, "%512s", append(wide, ""), "", api.ErrLong)
	checkFormat(t, repeat("%-512s", len(wide)), wide, repeat("a"+repeat(" ", 511), len(wide)), api.OK)
	checkFormat(t, repeat("%-512s", len(wide))+"x", nil, "", api.ErrLong)
	checkFormat(t, repeat("%.512d", len(wide)), nil, repeat("0", api.MaxFile), api.OK)
	checkFormat(t, repeat("%.512d", len(wide))+"%c", []string{"1"}, repeat("0", 511)+"1"+repeat("0", api.MaxFile-512), api.OK)
	checkFormat(t, repeat("%.512d", len(wide))+"%d", []string{"1"}, "", api.ErrLong)
}

// P10.2, P1: far more than MaxFile bytes of one f end with an error, and an error ahead of f's end is still told.
func TestFarTooLong(t *testing.T) {
	f := repeat("%999s", 1<<19)
	checkFormat(t, f, nil, "", api.ErrLong)
	checkFormat(t, f, []string{"x"}, "", api.ErrLong)
	checkFormat(t, f+"%d", slices.Repeat([]string{"x"}, 1<<19+1), "", api.ErrNumber)
	checkFormat(t, f+"%", nil, "", api.ErrForm)
}

// P10.2: one place, in all its forms, of many arguments.
func TestEachPlace(t *testing.T) {
	args := []string{"", "0", "7", "-7", "+12", "-0", "123456", "-123456", "-9223372036854775808", "'A", "\"\xff", "abcdef", "\\tx\\101", "-", "\x00\xff", "9223372036854775808"}
	for _, flags := range []string{"", "-", "0", "0-", "-0", "00"} {
		for _, width := range []string{"", "1", "2", "3", "6", "7", "8", "10", "25"} {
			for _, precision := range []string{"", ".", ".0", ".00", ".1", ".2", ".3", ".6", ".7", ".8", ".25"} {
				for _, letter := range "%sbcdiouxX" {
					f := "%" + flags + width + precision + string(letter)
					for _, arg := range args {
						checkModel(t, f, arg)
						checkModel(t, "<"+f+">", arg)
					}
					checkModel(t, f)
				}
			}
		}
	}
}

// P10.2: all widths, and all precisions.
func TestWidths(t *testing.T) {
	for n := range 1000 {
		digits := strconv.Itoa(n)
		for _, f := range []string{"%" + digits + "d|", "%-" + digits + "s|", "%0" + digits + "x|", "%." + digits + "d|", "%." + digits + "s|", "%3." + digits + "b|", "%" + digits + ".3i|", "%00" + digits + "." + digits + "X|"} {
			checkModel(t, f, "-12")
			checkModel(t, f)
		}
		checkModel(t, "%."+digits+"s", repeat("abc", 333))
		three := strconv.Itoa(1000 + n)[1:]
		checkModel(t, "%-."+three+"d", "5")
		checkModel(t, "%"+three+"."+three+"d", "5")
	}
}

// P10.2: formats by chance, against regular expressions.
func TestFormatByChance(t *testing.T) {
	r := rand.New(rand.NewSource(12))
	pieces := []string{"%s", "%d", "%-4d", "%05i", "%.3x", "%c", "%b", "%%", "%7%", "%3.1s", "a", " ", "\\n", "\\", "\\1", "7", "\\101", "%o", "%X", "%u", "\x00", "\xff", "."}
	loose := []string{"%", "%", "-", "0", "1", "9", ".", "s", "d", "x", "b", "c", "X", "\\", "n", "q"}
	args := []string{"", "0", "1", "-1", "+7", "42", "-300", "'x", "\"y", "abc", "\\n", "\\101", "%d", "x\\", "9223372036854775807"}
	for i := range 60000 {
		f := pick(r, r.Intn(8), pieces...)
		if i%3 == 0 {
			f += pick(r, r.Intn(8), loose...)
		}
		var l []string
		for range r.Intn(9) {
			n := len(args)
			if r.Intn(2) == 0 {
				n = 9 // numbers alone
			}
			l = append(l, args[r.Intn(n)])
		}
		checkModel(t, f, l...)
	}
	for range 5000 {
		checkModel(t, byChance(r, r.Intn(30)), byChance(r, r.Intn(5)), byChance(r, r.Intn(5)))
	}
}

// P10.2: what the printf of dash, and that of bash, told of these.
func TestKnownElsewhere(t *testing.T) {
	checkCases(t, []formatCase{
		of("%s %s\\n", "a b\x0ac \x0a", "a", "b", "c"),
		of("%5s|%-5s|%.2s|%5.1s", "  abc|abc  |ab|    a", "abc", "abc", "abc", "abc"),
		of("%d %i", "-12 34", "-12", "34"),
		of("%08d|%-8d|%8d", "-0001234|-1234   |   -1234", "-1234", "-1234", "-1234"),
		of("%.5d|%8.5d|%-8.5d|%08.5d", "-00042|  -00042|-00042  |  -00042", "-42", "-42", "-42", "-42"),
		of("%o %u %x %X", "7777 4095 fff FFF", "4095", "4095", "4095", "4095"),
		of("%x|%X|%o|%u", "ffffffffffffffff|FFFFFFFFFFFFFFFF|1777777777777777777777|18446744073709551615", "-1", "-1", "-1", "-1"),
		of("%x|%o|%u", "8000000000000000|1000000000000000000000|9223372036854775808", "-9223372036854775808", "-9223372036854775808", "-9223372036854775808"),
		of("%08x|%-8x|%.4X|%8.4X", "0000beef|beef    |BEEF|    BEEF", "48879", "48879", "48879", "48879"),
		of("%3c|%-3c|", "  x|u  |", "xyz", "uvw"),
		of("%b|%s", "a\x09b\x0a|a\\tb\\n", "a\\tb\\n", "a\\tb\\n"),
		of("%b", "AB\\", "\\101\\102\\\\"),
		of("%.3b|%6b|%-6b|", "Abc|    \x09x|x\x09    |", "\\101bcd", "\\tx", "x\\t"),
		of("%d %d", "97 98", "'a", "\"b"),
		of("%d,", "1,2,3,", "1", "2", "3"),
		of("[%s:%d]", "[a:1][b:0]", "a", "1", "b"),
		of("100%%\\n", "100%\x0a"),
		of("\\a\\b\\f\\n\\r\\t\\v\\\\", "\x07\x08\x0c\x0a\x0d\x09\x0b\\"),
		of("\\101\\60\\0\\7x", "A0\x00\x07x"),
		of("a\\qb", "a\\qb"),
		of("%03d.%03d.%03d.%03d", "010.000.000.007", "10", "0", "0", "7"),
		of("%-10s%5d\\n", "one           1\x0athree       333\x0a", "one", "1", "three", "333"),
		of("%s", ""),
		of("no places", "no places", "a", "b"),
		of("%.0s%s;", "b;d;", "a", "b", "c", "d"),
		of("%%%s%%", "%x%", "x"),
		of("%010.3s|", "       abc|", "abcdef"),
		of("%-08d|", "5       |", "5"),
		of("%0-8d|", "5       |", "5"),
		of("%00012d", "-00000000077", "-77"),
		of("%.10o|%12.10o", "0000000010|  0000000010", "8", "8"),
		of("%i", "7", "+7"),
		of("%20d|%-20d|", " 9223372036854775807|-9223372036854775808|", "9223372036854775807", "-9223372036854775808"),
		of("%X%x", "ABCabc", "2748", "2748"),
	})
}

// What is handed in isn't changed, and nil is the same as no arguments.
func TestArgumentsStay(t *testing.T) {
	args := []string{"a", "b", "c", "spare"}
	kept := slices.Clone(args)
	checkFormat(t, "%b,", args[:3], "a,b,c,", api.OK)
	if !slices.Equal(args, kept) {
		t.Errorf("the arguments became %q", args)
	}
	checkFormat(t, "%s%d", nil, "0", api.OK)
	checkFormat(t, "%s%d", []string{}, "0", api.OK)
}

// What a call answers hangs on its arguments alone: one call changes nothing for the next.
func TestCallsApart(t *testing.T) {
	for range 3 {
		checkFormat(t, "%s %d|", []string{"a", "1", "b"}, "a 1|b 0|", api.OK)
		checkFormat(t, "%d", []string{"x"}, "", api.ErrNumber)
		checkFormat(t, "x", []string{"x"}, "x", api.OK)
		checkFormat(t, "%q", nil, "", api.ErrForm)
	}
}
