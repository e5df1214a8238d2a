package uu

import (
	"bytes"
	"math"
	"math/rand"
	"regexp"
	"strconv"
	"strings"
	"testing"

	"seabag/api"
)

func repeat(s string, n int) string { return strings.Repeat(s, n) }

func byChance(r *rand.Rand, n int) string {
	b := make([]byte, n)
	r.Read(b)
	return string(b)
}

// bitsOf is a number as so many digits 0 and 1.
func bitsOf(n, wide int) string { return strconv.FormatUint(uint64(n)|1<<wide, 2)[1:] }

// modelLetter is the letter of six digits 0 and 1.
func modelLetter(six string) string {
	n, _ := strconv.ParseUint(six, 2, 6)
	return "`!\"#$%&'()*+,-./0123456789:;<=>?@ABCDEFGHIJKLMNOPQRSTUVWXYZ[\\]^_"[n : n+1]
}

// modelLine is a line of bytes, whose bits are written out as digits, with noughts behind them.
func modelLine(s string) string {
	row := ""
	for i := range len(s) {
		row += bitsOf(int(s[i]), 8)
	}
	row += repeat("0", (24-len(row)%24)%24)
	line := modelLetter(bitsOf(len(s), 6))
	for ; row != ""; row = row[6:] {
		line += modelLetter(row[:6])
	}
	return line + "\n"
}

// modelLines is all behind the first line.
func modelLines(s string) string {
	var lines strings.Builder
	for ; len(s) > 45; s = s[45:] {
		lines.WriteString(modelLine(s[:45]))
	}
	if s != "" {
		lines.WriteString(modelLine(s))
	}
	return lines.String() + "`\nend\n"
}

type told struct {
	m          int
	name, data string
	e          api.Errno
}

func (x told) String() string {
	return strconv.FormatInt(int64(x.m), 8) + " " + strconv.Quote(x.name) + " " + strconv.Quote(x.data) + " " + strconv.Itoa(int(x.e))
}

func decode(s string) told {
	m, name, data, e := Decode(s)
	return told{m, name, data, e}
}

func head(l string) told {
	m, name, e := Head(l)
	return told{m, name, "", e}
}

var (
	modelHead  = regexp.MustCompile(`(?s)\Abegin ([0-7]{3}) ([^\x00]+)\z`)
	modelWhole = regexp.MustCompile("(?s)\\A([^\n]*)\n((?:[!-M][ -`]+\n)*)[ `]\nend\n\\z")
)

func wrong() told { return told{e: api.ErrForm} }

// modelOfHead reads a first line by a regular expression.
func modelOfHead(l string) told {
	g := modelHead.FindStringSubmatch(l)
	if g == nil || len(g[2]) > api.MaxPath {
		return wrong()
	}
	m, _ := strconv.ParseInt(g[1], 8, 64)
	return told{m: int(m), name: g[2]}
}

// modelOfDecode reads lines by regular expressions, and their bits as digits.
func modelOfDecode(s string) told {
	g := modelWhole.FindStringSubmatch(s)
	if g == nil {
		return wrong()
	}
	got := modelOfHead(g[1])
	if got.e != api.OK {
		return got
	}
	var data []byte
	for _, line := range strings.Split(g[2], "\n") {
		if line == "" {
			continue
		}
		row := ""
		for i := 1; i < len(line); i++ {
			row += bitsOf((int(line[i])-32)%64, 6)
		}
		n := int(line[0]) - 32
		if len(row)%24 != 0 || len(row)/8 < n || len(row)/8 > n+2 {
			return wrong()
		}
		for i := range n {
			b, _ := strconv.ParseUint(row[8*i:8*i+8], 2, 8)
			data = append(data, byte(b))
		}
	}
	got.data = string(data)
	return got
}

func wantDecode(t *testing.T, s string, want told) {
	t.Helper()
	if got := decode(s); got != want {
		t.Errorf("Decode(%.90q) told %.90v, want %.90v", s, got, want)
	}
}

func wantEncode(t *testing.T, m int, name, s, want string, e api.Errno) {
	t.Helper()
	if got, gotE := Encode(m, name, s); got != want || gotE != e {
		t.Errorf("Encode(%o, %.20q, %.20q) told %.90q %d, want %.90q %d", m, name, s, got, gotE, want, e)
	}
}

// known are lines that another program tells of these bytes.
func known() []struct{ data, lines string } {
	upTo := func(from, to int) string {
		var b []byte
		for i := from; i < to; i++ {
			b = append(b, byte(i))
		}
		return string(b)
	}
	return []struct{ data, lines string }{
		{"", ""},
		{"\x00", "!````\n"},
		{"\x00\x00", "\"````\n"},
		{"\x00\x00\x00", "#````\n"},
		{"\xff", "!_P``\n"},
		{"\xff\xff", "\"__\\`\n"},
		{"\xff\xff\xff", "#____\n"},
		{"C", "!0P``\n"},
		{"Ca", "\"0V$`\n"},
		{"Cat", "#0V%T\n"},
		{"Cat\n", "$0V%T\"@``\n"},
		{"hello, world\n", "-:&5L;&\\L('=O<FQD\"@``\n"},
		{upTo(0, 45), "M``$\"`P0%!@<(\"0H+#`T.#Q`1$A,4%187&!D:&QP='A\\@(2(C)\"4F)R@I*BLL\n"},
		{upTo(0, 46), "M``$\"`P0%!@<(\"0H+#`T.#Q`1$A,4%187&!D:&QP='A\\@(2(C)\"4F)R@I*BLL\n!+0``\n"},
		{upTo(211, 256), "MT]35UM?8V=K;W-W>W^#AXN/DY>;GZ.GJZ^SM[N_P\\?+S]/7V]_CY^OO\\_?[_\n"},
	}
}

// P9.1, P9.2
func TestLinesThatAreKnown(t *testing.T) {
	for _, c := range known() {
		lines := "begin 644 x\n" + c.lines + "`\nend\n"
		wantEncode(t, 0o644, "x", c.data, lines, api.OK)
		wantDecode(t, lines, told{0o644, "x", c.data, api.OK})
		if got := Encoded(len(c.data)); got != len(c.lines)+6 {
			t.Errorf("Encoded(%d) told %d", len(c.data), got)
		}
	}
}

// P9.1: all lengths around those of whole lines, and long ones; P9.2: and back.
func TestLengths(t *testing.T) {
	r := rand.New(rand.NewSource(9))
	lengths := []int{899, 900, 901, 4095, 4096, 4097, 65535, 65536, 70000}
	for n := range 300 {
		lengths = append(lengths, n)
	}
	for _, n := range lengths {
		data := byChance(r, n)
		want := modelLines(data)
		got, e := Encode(0o600, "x", data)
		if e != api.OK || got != "begin 600 x\n"+want {
			t.Errorf("%d bytes by chance: other lines, and %d", n, e)
		}
		if size := Encoded(n); size != len(want) {
			t.Errorf("Encoded(%d) told %d, want %d", n, size, len(want))
		}
		if back := decode(got); back != (told{0o600, "x", data, api.OK}) {
			t.Errorf("%d bytes by chance, and back: others, and %d", n, back.e)
		}
	}
}

// P9.1, P9.2: every byte at each of the three places, with one, two and three bytes, and every letter so.
func TestEveryByte(t *testing.T) {
	for i := range 256 {
		for _, around := range []string{"", "\x00", "z", "\xff"} {
			b := string([]byte{byte(i)})
			for _, data := range []string{b, b + around, around + b, around + around + b, around + b + around, b + around + around} {
				lines := "begin 600 x\n" + modelLines(data)
				wantEncode(t, 0o600, "x", data, lines, api.OK)
				wantDecode(t, lines, told{0o600, "x", data, api.OK})
			}
		}
	}
}

// P9.1: up to the greatest number it is promised of.
func TestEncodedOfManyBytes(t *testing.T) {
	for n, want := range map[int]int{
		0: 6, 1: 12, 3: 12, 4: 16, 44: 68, 45: 68, 46: 74, 90: 130, 91: 136,
		// MaxFile is 93206 times 45, and 34 beside; 2^24 is 372827 times 45, and one beside.
		api.MaxFile: 93206*62 + 50 + 6, 1<<24 - 1: 372827*62 + 6, 1 << 24: 372827*62 + 6 + 6,
	} {
		if got := Encoded(n); got != want {
			t.Errorf("Encoded(%d) told %d, want %d", n, got, want)
		}
	}
	for _, n := range []int{api.MaxFile, 1 << 24} {
		s, e := Encode(0, "x", repeat("\xa5", n))
		if e != api.OK || len(s)-len("begin 000 x\n") != Encoded(n) {
			t.Errorf("the lines of %d bytes have %d, and Encoded told %d", n, len(s), Encoded(n))
		}
		if _, _, data, e := Decode(s); e != api.OK || data != repeat("\xa5", n) {
			t.Errorf("%d bytes, and back: others, and %d", n, e)
		}
	}
}

// P9.1: of the least number to the greatest, by steps: each line more adds 62, and each three bytes four.
func TestEncodedGrows(t *testing.T) {
	want := 6
	for n := range 1<<24 + 1 {
		if n > 0 && n%45 == 1 {
			want += 2
		}
		if n > 0 && n%45%3 == 1 {
			want += 4
		}
		if Encoded(n) != want {
			t.Fatalf("Encoded(%d) told %d, want %d", n, Encoded(n), want)
		}
	}
}

// P1: of other numbers nothing is promised, but that it ends.
func TestEncodedOfAnyNumberEnds(t *testing.T) {
	for _, n := range []int{-1, -45, -46, 1<<24 + 1, math.MaxInt32, math.MaxInt, math.MinInt} {
		Encoded(n)
	}
}

// P9.1: the three lowest octal digits of every mode; P9.2: and back, without the others.
func TestEveryMode(t *testing.T) {
	for m := range 0o10000 {
		digits := strconv.FormatInt(int64(m)|0o10000, 8)[2:]
		lines := "begin " + digits + " x\n`\nend\n"
		wantEncode(t, m, "x", "", lines, api.OK)
		wantDecode(t, lines, told{m & 0o777, "x", "", api.OK})
		if got := head("begin " + digits + " x"); got != (told{m: m & 0o777, name: "x"}) {
			t.Errorf("Head of %s told %v", digits, got)
		}
	}
}

// P9.1: what is no mode, whatever the name.
func TestEncodeOfNoMode(t *testing.T) {
	for _, m := range []int{-1, -0o644, 0o10000, 0o10644, math.MaxInt, math.MinInt} {
		for _, name := range []string{"x", "", "a\nb", "\x00", repeat("n", api.MaxPath+1)} {
			wantEncode(t, m, name, "abc", "", api.ErrRange)
		}
	}
}

// P9.1, P9.2: any path without a newline.
func TestNames(t *testing.T) {
	for _, name := range []string{
		"x", "a b", " ", "  x ", "/", "/dev/stdout", "a//b/", ".", "..", "-o", "\t", "\r", "\xff\xfe", "ä", "`", "end", "begin 644 x", "$x '\"\\",
		repeat("n", api.MaxName+1), repeat("n", api.MaxPath-1), repeat("n", api.MaxPath), repeat("/", api.MaxPath), repeat("\xc3\xa4", 2047),
	} {
		lines := "begin 644 " + name + "\n#0V%T\n`\nend\n"
		wantEncode(t, 0o644, name, "Cat", lines, api.OK)
		wantDecode(t, lines, told{0o644, name, "Cat", api.OK})
		if got := head("begin 644 " + name); got != (told{m: 0o644, name: name}) {
			t.Errorf("Head of the name %.20q told %.40v", name, got)
		}
	}
}

// P9.1, P9.2: what is no path, or has a newline.
func TestNamesThatMayNotBe(t *testing.T) {
	for _, name := range []string{
		"", "\x00", "a\x00", "\x00a", "a\x00b", repeat("n", api.MaxPath+1), repeat("/", api.MaxPath+1), repeat("\xc3\xa4", 2048), repeat("n", api.MaxPath-1) + "\x00",
		"\n", "a\n", "\na", "a\nb", repeat("n", api.MaxPath-1) + "\n",
	} {
		wantEncode(t, 0o644, name, "Cat", "", api.ErrForm)
		wantEncode(t, 0, name, "", "", api.ErrForm)
		wantDecode(t, "begin 644 "+name+"\n#0V%T\n`\nend\n", wrong())
		if strings.Contains(name, "\n") {
			continue // of Head it is a path, as any other
		}
		if got := head("begin 644 " + name); got != wrong() {
			t.Errorf("Head of the name %.20q told %.40v", name, got)
		}
	}
}

// P9.2: Head asks for a path, and a newline may be in one.
func TestHeadOfANewline(t *testing.T) {
	for _, name := range []string{"\n", "a\n", "\na", "a\nb", repeat("n", api.MaxPath-1) + "\n"} {
		if got := head("begin 644 " + name); got != (told{m: 0o644, name: name}) {
			t.Errorf("Head of the name %.20q told %.40v", name, got)
		}
	}
}

// P9.2: first lines that are none.
func TestHeadThatIsNone(t *testing.T) {
	for _, l := range []string{
		"", "b", "begin", "begin ", "begin 6", "begin 64", "begin 644", "begin 644 ", "begin 64 x", "begin 6444 x", "begin 0644 x", "begin  644 x", "begin644 x",
		"begin 644x", "begin 644\tx", "begin\t644 x", " begin 644 x", "xbegin 644 x", "Begin 644 x", "begin-base64 644 x", "begin 844 x", "begin 684 x", "begin 648 x", "begin 944 x",
		"begin /44 x", "begin 6:4 x", "begin 64a x", "begin -44 x", "begin +44 x", "begin u+x x", "begin a=r x", "begin    x x", "begin 6 4 x", "begin x 644", "begin x",
		"begin \x0044 x", "begin 644\x00x", "\nbegin 644 x", "begin\n644 x", "end", "begin 644 \x00",
	} {
		if got := head(l); got != wrong() {
			t.Errorf("Head(%q) told %v", l, got)
		}
		wantDecode(t, l+"\n`\nend\n", wrong())
	}
}

// P9.2: every byte in place of each one of a first line.
func TestHeadWithEveryByte(t *testing.T) {
	const l = "begin 752 a b"
	for i := range len(l) {
		for b := range 256 {
			other := l[:i] + string([]byte{byte(b)}) + l[i+1:]
			if got, want := head(other), modelOfHead(other); got != want {
				t.Errorf("Head(%q) told %v, want %v", other, got, want)
			}
		}
	}
}

// P9.2: lines may have any number of bytes from 1 to 45, not only the last one fewer.
func TestLinesOfAnyLength(t *testing.T) {
	for n := 1; n <= 45; n++ {
		data := repeat("ab\xff", 15)[:n]
		lines := modelLine(data) + modelLine("Cat") + modelLine(data)
		wantDecode(t, "begin 600 x\n"+lines+"`\nend\n", told{0o600, "x", data + "Cat" + data, api.OK})
	}
	wantDecode(t, "begin 600 x\n"+repeat("!0P``\n", 1000)+"`\nend\n", told{0o600, "x", repeat("C", 1000), api.OK})
}

// P9.2: no line has more bytes than 45, though a letter could say so.
func TestLinesThatAreTooLong(t *testing.T) {
	for n := 46; n <= 63; n++ {
		line := modelLine(repeat("x", n))
		wantDecode(t, "begin 600 x\n"+line+"`\nend\n", wrong())
		wantDecode(t, "begin 600 x\n#0V%T\n"+line+"`\nend\n", wrong())
	}
}

// P9.2: a line has just as many letters as its bytes need, whatever their number.
func TestLinesOfOtherLetters(t *testing.T) {
	for n := range 64 {
		for letters := range 90 {
			s := "begin 600 x\n" + modelLetter(bitsOf(n, 6)) + repeat("0", letters) + "\n`\nend\n"
			want := wrong()
			if n > 0 && n <= 45 && letters == (n+2)/3*4 {
				want = told{0o600, "x", repeat("A\x04\x10", 15)[:n], api.OK}
			}
			wantDecode(t, s, want)
		}
	}
}

// P9.2: a blank and a backquote are of one and the same six bits, wherever they stand.
func TestOtherLettersOfTheSameBits(t *testing.T) {
	for _, c := range known() {
		s := "begin 600 x\n" + strings.ReplaceAll(c.lines, "`", " ") + " \nend\n"
		wantDecode(t, s, told{0o600, "x", c.data, api.OK})
	}
	wantDecode(t, "begin 600 x\n# ` `\n \nend\n", told{0o600, "x", "\x00\x00\x00", api.OK})
	wantDecode(t, "begin 600 x\n `!!!\n`\nend\n", wrong())
}

// P9.2: whatever letters stand in place of the noughts that were put behind; what is no letter is none there, too.
func TestOtherBitsBehind(t *testing.T) {
	for b := range 256 {
		other := string([]byte{byte(b)})
		one, two := told{0o600, "x", "C", api.OK}, told{0o600, "x", "Ca", api.OK}
		if b < 0x20 || b > 0x60 {
			one, two = wrong(), wrong()
		}
		wantDecode(t, "begin 600 x\n!0P"+other+"`\n`\nend\n", one)
		wantDecode(t, "begin 600 x\n!0P`"+other+"\n`\nend\n", one)
		wantDecode(t, "begin 600 x\n\"0V$"+other+"\n`\nend\n", two)
	}
	for low := range 16 {
		wantDecode(t, "begin 600 x\n!0"+modelLetter(bitsOf(0x30+low, 6))+"__\n`\nend\n", told{0o600, "x", "C", api.OK})
	}
	for low := range 4 {
		wantDecode(t, "begin 600 x\n\"0V"+modelLetter(bitsOf(4+low, 6))+"_\n`\nend\n", told{0o600, "x", "Ca", api.OK})
	}
}

// P9.2: what isn't lines.
func TestDecodeOfNoLines(t *testing.T) {
	for _, s := range []string{
		"", "\n", "end\n", "`\nend\n", "#0V%T\n`\nend\n", "begin 600 x", "begin 600 x\n", "begin 600 x\nend\n", "begin 600 x\n#0V%T\nend\n",
		"begin 600 x`\nend\n", "begin 600 x\n\n`\nend\n", "\nbegin 600 x\n`\nend\n", "begin 600 x\n`", "begin 600 x\n`\n", "begin 600 x\n`\nend", "begin 600 x\n`end\n",
		"begin 600 x\n`\n\nend\n", "begin 600 x\n`\nend\n\n", "begin 600 x\n`\nend\nq", "begin 600 x\n`\nend\nend\n", "begin 600 x\n`\nend \n", "begin 600 x\n`\n end\n", "begin 600 x\n`\nEnd\n",
		"begin 600 x\n`\n`\nend\n", "begin 600 x\n`\n \nend\n", "begin 600 x\n`\n#0V%T\nend\n", "begin 600 x\n`\n#0V%T\n`\nend\n", "begin 600 x\n``\nend\n", "begin 600 x\n` \nend\n",
		"begin 600 x\n#0V%T \n`\nend\n", "begin 600 x\n#0V%T\r\n`\nend\n", "begin 600 x\r\n#0V%T\n`\r\nend\r\n", "begin 600 x\n #0V%T\n`\nend\n",
		"begin 600 x\n#0V%\n`\nend\n", "begin 600 x\n#0V%TT\n`\nend\n", "begin 600 x\n#0V%~\n`\nend\n", "begin 600 x\n#0V\n%T\n`\nend\n", "begin 600 x\n#0V%T0V%T\n`\nend\n", "begin 600 x\n#\n`\nend\n",
		"begin 600 x\n!0P\n`\nend\n", "begin 600 x\n#0V%T", "begin 600 x\n#0V%T\n`", "begin 600 x\naaaaa\n`\nend\n", "begin 600 x\n\x00\n`\nend\n", "begin 600 x\n\x1f\nend\n", "begin 600 x\na\nend\n",
	} {
		wantDecode(t, s, wrong())
	}
}

// P9.2: lines that break off anywhere, or have anything ahead or behind, aren't lines.
func TestLinesBrokenOff(t *testing.T) {
	s, _ := Encode(0o755, "a b", repeat("\x00a\xff", 40))
	for i := range len(s) {
		wantDecode(t, s[:i], wrong())
	}
	for b := range 256 {
		wantDecode(t, s+string([]byte{byte(b)}), wrong())
		wantDecode(t, string([]byte{byte(b)})+s, wrong())
	}
	wantDecode(t, s+s, wrong())
}

// P9.2: every byte in place of each one, and none, and one more.
func TestLinesWithEveryByte(t *testing.T) {
	s := "begin 600 xy\n" + modelLine("Cat and ") + modelLine("d") + "`\nend\n"
	wantDecode(t, s, told{0o600, "xy", "Cat and d", api.OK})
	for i := range len(s) {
		left := s[:i] + s[i+1:]
		wantDecode(t, left, modelOfDecode(left))
		for b := range 256 {
			one := string([]byte{byte(b)})
			other, more := s[:i]+one+s[i+1:], s[:i]+one+s[i:]
			wantDecode(t, other, modelOfDecode(other))
			wantDecode(t, more, modelOfDecode(more))
		}
	}
}

// P9.2: lines by chance, of letters by chance, spoilt or not.
func TestDecodeAgainstTheModel(t *testing.T) {
	r := rand.New(rand.NewSource(92))
	right := 0
	for range 20000 {
		s := []byte("begin 6" + string([]byte{byte('0' + r.Intn(9))}) + "4 x y\n")
		for range r.Intn(5) {
			n := 1 + r.Intn(46)
			s = append(s, byte(32+n))
			for range (n + 2) / 3 * 4 {
				s = append(s, byte(32+r.Intn(65)))
			}
			s = append(s, '\n')
		}
		s = append(s, []string{"`", " ", "`", "``", "!"}[r.Intn(5)]...)
		s = append(s, "\nend\n"...)
		for range r.Intn(3) * r.Intn(2) {
			i := r.Intn(len(s))
			s[i] = []byte("`\n !a#\x7f\x1fn")[r.Intn(9)]
		}
		want := modelOfDecode(string(s))
		if want.e == api.OK {
			right++
		}
		wantDecode(t, string(s), want)
	}
	if right < 2000 {
		t.Errorf("only %d of the texts were lines", right)
	}
}

// P9.2: texts of a few of the bytes that matter, whole lines among them.
func TestDecodeOfPieces(t *testing.T) {
	r := rand.New(rand.NewSource(93))
	pieces := []string{"begin 600 x\n", "begin 777 `\n", "#0V%T\n", "!0P``\n", "`\n", " \n", "end\n", "end", "\n", "`", modelLine(repeat("q", 45))}
	for range 30000 {
		s := pieces[r.Intn(2)]
		for range r.Intn(6) {
			s += pieces[r.Intn(len(pieces))]
		}
		wantDecode(t, s, modelOfDecode(s))
		s += "`\nend\n"
		wantDecode(t, s, modelOfDecode(s))
	}
}

// What is told is the same each time, and stands for itself.
func TestCallsApart(t *testing.T) {
	data := bytes.Repeat([]byte("abc"), 30)
	first, _ := Encode(0o644, "x", string(data))
	Encode(0o600, "y", "other")
	Decode("begin 600 y\n#0V%T\n`\nend\n")
	if again, _ := Encode(0o644, "x", string(data)); again != first {
		t.Errorf("told %q, and then %q", first, again)
	}
	for range 2 {
		wantDecode(t, first, told{0o644, "x", string(data), api.OK})
	}
}

// The chapter's example.
func TestCat(t *testing.T) {
	wantEncode(t, 0o644, "x", "Cat", "begin 644 x\n#0V%T\n`\nend\n", api.OK)
}
