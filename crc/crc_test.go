package crc

import (
	"math/bits"
	"math/rand"
	"slices"
	"strconv"
	"strings"
	"testing"
)

func repeat(s string, n int) string { return strings.Repeat(s, n) }

func allBytes() string {
	var b []byte
	for i := range 256 {
		b = append(b, byte(i))
	}
	return string(b)
}

func byChance(r *rand.Rand, n int) string {
	b := make([]byte, n)
	r.Read(b)
	return string(b)
}

// bitsOf is a text's bits one by one, of each byte the highest one first.
func bitsOf(t string) []byte {
	var list []byte
	for i := range len(t) {
		for _, c := range []byte(strconv.FormatUint(uint64(t[i])|0x100, 2)[1:]) {
			list = append(list, c-'0')
		}
	}
	return list
}

// model is the check as the rest of a division without carry: of the bits, and those of how many bytes there are, with 32 noughts behind them.
func model(t string) uint32 {
	var count []byte
	for n := len(t); n > 0; n /= 256 {
		count = append(count, byte(n%256))
	}
	row := append(bitsOf(t), bitsOf(string(count))...)
	row = append(row, make([]byte, 32)...)
	divisor := bitsOf("\x01\x04\xc1\x1d\xb7")[7:]
	for i := range len(row) - 32 {
		if row[i] == 1 {
			for k, d := range divisor {
				row[i+k] ^= d
			}
		}
	}
	rest := uint32(0)
	for _, b := range row[len(row)-32:] {
		rest = rest<<1 | uint32(b)
	}
	return ^rest
}

// turned is a text of which the bits of the pattern, the highest one at this place, are turned; a place is of bits.
func turned(t string, place int, pattern uint64, wide int) string {
	b := []byte(t)
	for i := range wide {
		if pattern>>(wide-1-i)&1 == 1 {
			at := place + i
			b[at/8] ^= 0x80 >> (at % 8)
		}
	}
	return string(b)
}

func wantSum(t *testing.T, what string, s *Sum, text string) {
	t.Helper()
	if n := s.Len(); n != len(text) {
		t.Errorf("%s: Len told %d, want %d", what, n, len(text))
	}
	if got, want := s.Value(), model(text); got != want {
		t.Errorf("%s: Value told %d, want %d", what, got, want)
	}
}

// P8.1: lines that the tool cksum tells elsewhere.
func TestLinesThatAreKnown(t *testing.T) {
	for _, c := range []struct{ text, want string }{
		{"", "4294967295 0"},
		{"a", "1220704766 1"},
		{"123456789", "930766865 9"},
		{"hello, world\n", "1398783287 13"},
		{"\x00", "4215202376 1"},
		{"\x00\x00", "4135437457 2"},
		{"\xff", "3045181057 1"},
		{"\xff\xff\xff\xff", "2884317887 4"},
		{allBytes(), "1313719201 256"},
	} {
		if got := Line(c.text); got != c.want {
			t.Errorf("Line(%.20q) told %q, want %q", c.text, got, c.want)
		}
		digits, _, _ := strings.Cut(c.want, " ")
		if got := strconv.FormatUint(uint64(Of(c.text)), 10); got != digits {
			t.Errorf("Of(%.20q) told %s, want %s", c.text, got, digits)
		}
	}
}

// P8.1: how many bytes there are is taken in with no nought above, the lowest byte first: one byte, two, three and four.
func TestHowManyThereAre(t *testing.T) {
	for _, c := range []struct {
		count int
		want  string
	}{
		{255, "1309196107 255"},
		{256, "4215202376 256"},
		{65535, "12032898 65535"},
		{65536, "4215202376 65536"},
		{1<<24 - 1, "3080422143 16777215"},
		{1 << 24, "4215202376 16777216"},
	} {
		if got := Line(repeat("\x00", c.count)); got != c.want {
			t.Errorf("Line of %d noughts told %q, want %q", c.count, got, c.want)
		}
	}
}

// P8.1: each byte alone, and each behind and ahead of another one.
func TestEveryByte(t *testing.T) {
	for _, around := range []string{"", "\x00", "\x80", "z", "\xff\xfe"} {
		for i := range 256 {
			for _, text := range []string{string([]byte{byte(i)}) + around, around + string([]byte{byte(i)})} {
				if got, want := Of(text), model(text); got != want {
					t.Errorf("Of(%q) told %d, want %d", text, got, want)
				}
			}
		}
	}
}

// P8.1: texts by chance of many lengths, of which many are no UTF-8.
func TestOfAgainstTheModel(t *testing.T) {
	r := rand.New(rand.NewSource(8))
	for n := range 600 {
		text := byChance(r, n)
		want := model(text)
		if got := Of(text); got != want {
			t.Fatalf("Of of %d bytes told %d, want %d", n, got, want)
		}
		line := strconv.FormatUint(uint64(want), 10) + " " + strconv.Itoa(n)
		if got := Line(text); got != line {
			t.Fatalf("Line of %d bytes told %q, want %q", n, got, line)
		}
	}
	for _, n := range []int{65534, 65535, 65536, 65537, 70000} {
		text := byChance(r, n)
		if got, want := Of(text), model(text); got != want {
			t.Errorf("Of of %d bytes told %d, want %d", n, got, want)
		}
	}
}

// P8.1: the zero Sum is that of no bytes, and to take in none changes nothing.
func TestTheZeroSum(t *testing.T) {
	var s Sum
	wantSum(t, "the zero Sum", &s, "")
	s.Add()
	s.Add(nil...)
	s.Add([]byte{}...)
	wantSum(t, "with no bytes", &s, "")
	if got := s.Value(); got != 0xffffffff {
		t.Errorf("Value of nothing told %d", got)
	}
	s.Add(0)
	wantSum(t, "with a nought", &s, "\x00")
	s.Add()
	wantSum(t, "with a nought, and none", &s, "\x00")
}

// P8.1: bytes come behind those that were, in whatever pieces; what is asked in between changes nothing.
func TestPieces(t *testing.T) {
	r := rand.New(rand.NewSource(81))
	for range 300 {
		var asked, silent Sum
		text := ""
		for range r.Intn(12) {
			piece := byChance(r, r.Intn(70))
			asked.Add([]byte(piece)...)
			silent.Add([]byte(piece)...)
			text += piece
			wantSum(t, "asked", &asked, text)
			wantSum(t, "asked again", &asked, text)
		}
		wantSum(t, "not asked", &silent, text)
		if asked.Value() != Of(text) {
			t.Errorf("Value told %d, Of %d", asked.Value(), Of(text))
		}
	}
}

// P8.1: the order of the pieces counts.
func TestOrder(t *testing.T) {
	var s, other Sum
	s.Add('1', '2')
	s.Add('3')
	other.Add('3')
	other.Add('1', '2')
	wantSum(t, "123", &s, "123")
	wantSum(t, "312", &other, "312")
	if s.Value() == other.Value() {
		t.Errorf("both told %d", s.Value())
	}
}

// P8.1: two Sums at a time have nothing to do with one another, nor with Of.
func TestSumsApart(t *testing.T) {
	var a, b Sum
	a.Add('a')
	Of("xyz")
	b.Add('b', 'c')
	Line("xyz")
	a.Add('d')
	wantSum(t, "the one", &a, "ad")
	wantSum(t, "the other", &b, "bc")
}

// P8.1: a list that is handed in is neither changed nor kept, its spare room neither.
func TestListsStayTheirs(t *testing.T) {
	whole := []byte("abcdefgh")
	given := whole[2:5]
	var s Sum
	s.Add(given...)
	if string(whole) != "abcdefgh" {
		t.Errorf("the list became %q", whole)
	}
	for i := range whole {
		whole[i] = 'x'
	}
	wantSum(t, "with the list changed", &s, "cde")
	s.Add('f')
	wantSum(t, "and gone on", &s, "cdef")
	if string(whole) != "xxxxxxxx" {
		t.Errorf("the list became %q", whole)
	}
}

// P8.2: whichever bits of a byte, of two, or of a few that aren't neighbours within 32 bits are turned, at every place of a text.
func TestFewBitsTurned(t *testing.T) {
	text := "a tree of files\x00\xff"
	was := Of(text)
	for place := range len(text)*8 - 31 {
		for first := range 32 {
			for second := first; second < 32; second++ {
				pattern := uint64(1)<<first | uint64(1)<<second
				if Of(turned(text, place, pattern, 32)) == was {
					t.Fatalf("bits %032b at %d: the check is the same", pattern, place)
				}
			}
		}
	}
}

// rank is how many of the numbers are no sum without carry of others.
func rank(list []uint32) int {
	list = slices.Clone(list)
	n := 0
	for i := range list {
		if list[i] == 0 {
			continue
		}
		n++
		top := bits.Len32(list[i]) - 1
		for k := i + 1; k < len(list); k++ {
			if list[k]>>top&1 == 1 {
				list[k] ^= list[i]
			}
		}
	}
	return n
}

// P8.2, whole for these lengths: a turned bit changes the check by a number that hangs on its place alone, and no sum of such numbers of 32 bits that follow one another is nought.
func TestEveryWindowOf32Bits(t *testing.T) {
	r := rand.New(rand.NewSource(82))
	for _, n := range []int{1, 2, 3, 4, 5, 6, 9, 31, 64, 255, 256, 300} {
		text := byChance(r, n)
		was := Of(text)
		wide := min(32, n*8)
		change := make([]uint32, n*8)
		for place := range change {
			change[place] = Of(turned(text, place, 1, 1)) ^ was
		}
		for place := range n*8 - wide + 1 {
			if got := rank(change[place : place+wide]); got != wide {
				t.Fatalf("%d bytes, %d bits from %d on: the rank is %d", n, wide, place, got)
			}
		}
		for range 50 {
			place, pattern, want := r.Intn(n*8-wide+1), r.Uint32(), was
			for i := range wide {
				if pattern>>(wide-1-i)&1 == 1 {
					want ^= change[place+i]
				}
			}
			if got := Of(turned(text, place, uint64(pattern), wide)); got != want {
				t.Fatalf("%d bytes, bits %b at %d: told %d, want %d", n, pattern, place, got, want)
			}
		}
	}
}

// P8.2: texts of fewer than 32 bits have other checks each.
func TestShortTexts(t *testing.T) {
	for n := range 3 {
		seen := map[uint32]string{}
		for i := range 1 << (8 * n) {
			text := string([]byte{byte(i), byte(i >> 8)}[:n])
			if other, there := seen[Of(text)]; there {
				t.Fatalf("%q and %q have one check", text, other)
			}
			seen[Of(text)] = text
		}
	}
}

// P8.2: within 32 bits by chance, in longer texts, at their beginnings and ends too.
func TestBurstsByChance(t *testing.T) {
	r := rand.New(rand.NewSource(83))
	for range 400 {
		text := byChance(r, 4+r.Intn(5000))
		last := len(text)*8 - 32
		for _, place := range []int{0, last, r.Intn(last + 1)} {
			pattern := uint64(r.Uint32()) | 1
			if Of(turned(text, place, pattern, 32)) == Of(text) {
				t.Fatalf("%d bytes, bits %032b at %d: the check is the same", len(text), pattern, place)
			}
		}
	}
}

// P8.2 says nothing of 33 bits: those of the divisor, turned, leave the check as it was, wherever they are; one bit less doesn't.
func TestTheDivisorTurned(t *testing.T) {
	const divisor = 0x104c11db7
	text := "spoilt, but not to be told"
	for place := range len(text)*8 - 32 {
		if Of(turned(text, place, divisor, 33)) != Of(text) {
			t.Errorf("33 bits from %d on: the check is another", place)
		}
		if Of(turned(text, place, divisor&^1, 33)) == Of(text) {
			t.Errorf("32 bits from %d on: the check is the same", place)
		}
	}
}
