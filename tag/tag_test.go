package tag

import (
	"math"
	"math/rand"
	"slices"
	"strconv"
	"strings"
	"testing"

	"seabag/api"
	"seabag/path"
)

// all is how many numbers have a tag.
const all = 26 * 26 * 26 * 26 * 26

func repeat(s string, n int) string { return strings.Repeat(s, n) }

// short is a text that a failing test can show.
func short(s string) string {
	if len(s) > 200 {
		return strconv.Quote(s[:200]) + ".. (" + strconv.Itoa(len(s)) + " bytes)"
	}
	return strconv.Quote(s)
}

// pick is a text of so many pieces.
func pick(r *rand.Rand, n int, pieces ...string) string {
	var s strings.Builder
	for range n {
		s.WriteString(pieces[r.Intn(len(pieces))])
	}
	return s.String()
}

// The model: a number's letters are its digits to the base of 26, and its halves are looked for in each text, one by one.

func modelLetters(n int) string {
	const from = "0123456789abcdefghijklmnop"
	s := strings.Map(func(r rune) rune { return 'A' + rune(strings.IndexRune(from, r)) }, strconv.FormatInt(int64(n), 26))
	return repeat("A", 5-len(s)) + s
}

func modelFree(n int, texts []string) bool {
	for _, s := range texts {
		if strings.Contains(s, "BQ"+modelLetters(n)) || strings.Contains(s, "EQ"+modelLetters(n)) {
			return false
		}
	}
	return true
}

func modelFirst(from int, texts []string) (int, api.Errno) {
	for n := max(from, 0); n < all; n++ {
		if modelFree(n, texts) {
			return n, api.OK
		}
	}
	return 0, api.ErrTag
}

func modelStage(names []string) string {
	if !slices.Contains(names, ".seabag") {
		return ".seabag"
	}
	for n := 1; ; n++ {
		if s := ".seabag-" + strconv.Itoa(n); !slices.Contains(names, s) {
			return s
		}
	}
}

func checkTag(t *testing.T, n int, letters string) {
	t.Helper()
	if a, b := Halves(n); a != "BQ"+letters || b != "EQ"+letters {
		t.Errorf("Halves of %d: %q %q, want the letters %s", n, a, b, letters)
	}
	if s, want := Of(n), "BQ"+letters+"_SEABAG_EQ"+letters; s != want {
		t.Errorf("Of of %d: %q, want %q", n, s, want)
	}
}

func checkFirst(t *testing.T, want int, e api.Errno, from int, texts ...string) {
	t.Helper()
	if n, g := First(from, texts...); n != want || g != e {
		t.Errorf("First from %d of %d texts, %s: %d %d, want %d %d", from, len(texts), short(strings.Join(texts, "|")), n, g, want, e)
	}
}

func checkModel(t *testing.T, from int, texts ...string) {
	t.Helper()
	want, e := modelFirst(from, texts)
	checkFirst(t, want, e, from, texts...)
}

func checkStage(t *testing.T, want string, names ...string) {
	t.Helper()
	if s := Stage(names...); s != want {
		t.Errorf("Stage of %d names, %s: %q, want %q", len(names), short(strings.Join(names, "|")), s, want)
	}
}

// P13.1: known tags, the chapter's example among them.
func TestKnownTags(t *testing.T) {
	for _, x := range []struct {
		n       int
		letters string
	}{
		{0, "AAAAA"}, {1, "AAAAB"}, {25, "AAAAZ"}, {26, "AAABA"}, {27, "AAABB"}, {51, "AAABZ"}, {52, "AAACA"},
		{675, "AAAZZ"}, {676, "AABAA"}, {17575, "AAZZZ"}, {17576, "ABAAA"}, {456975, "AZZZZ"}, {456976, "BAAAA"},
		{0*456976 + 1*17576 + 2*676 + 3*26 + 4, "ABCDE"}, {25*456976 + 24*17576 + 23*676 + 22*26 + 21, "ZYXWV"},
		{all - 27, "ZZZYZ"}, {all - 26, "ZZZZA"}, {all - 2, "ZZZZY"}, {all - 1, "ZZZZZ"},
	} {
		checkTag(t, x.n, x.letters)
	}
	if s := Of(27); s != "BQAAABB_SEABAG_EQAAABB" {
		t.Errorf("Of of 27: %q", s)
	}
}

// P13.1: tags by the model, of numbers all over.
func TestTags(t *testing.T) {
	for n := range 1000 {
		checkTag(t, n, modelLetters(n))
		checkTag(t, all-1-n, modelLetters(all-1-n))
	}
	r := rand.New(rand.NewSource(1301))
	for n := 0; n < all; n += 1 + r.Intn(200) {
		checkTag(t, n, modelLetters(n))
	}
}

// P1: the calls end, whatever the number is.
func TestNumbersWithoutTag(t *testing.T) {
	for _, n := range []int{-1, -2, -25, -26, -27, -all, all, all + 1, all + 26, 2 * all, 1 << 31, 1 << 40, math.MaxInt, math.MinInt, math.MinInt + 1} {
		if a, b := Halves(n); a != "" || b != "" {
			t.Errorf("Halves of %d: %q %q", n, a, b)
		}
		if s := Of(n); s != "" {
			t.Errorf("Of of %d: %q", n, s)
		}
	}
}

// P13.1: from where First begins, if nothing is taken.
func TestFirstFrom(t *testing.T) {
	for _, from := range []int{0, 1, 25, 26, 27, 456976, all - 2, all - 1} {
		checkFirst(t, from, api.OK, from)
		checkFirst(t, from, api.OK, from, "")
		checkFirst(t, from, api.OK, from, "", "a", "BQ", "EQ", "_SEABAG_", "BQAAA")
	}
	for _, from := range []int{-1, -5, -26, -all, math.MinInt, math.MinInt + 1} {
		checkFirst(t, 0, api.OK, from)
		checkFirst(t, 0, api.OK, from, "a")
		checkFirst(t, 1, api.OK, from, Of(0))
	}
	for _, from := range []int{all, all + 1, 2 * all, 1 << 40, math.MaxInt - 1, math.MaxInt} {
		checkFirst(t, 0, api.ErrTag, from)
		checkFirst(t, 0, api.ErrTag, from, "", "a", Of(0), Of(all-1))
	}
}

// P13.1: either half takes a number, wherever in whichever text it stands.
func TestEitherHalf(t *testing.T) {
	for _, n := range []int{0, 1, 25, 26, 27, 675, 676, 12345, 456976, all - 2} {
		a, b := Halves(n)
		for _, half := range []string{a, b, Of(n)} {
			for _, s := range []string{
				half, "x" + half, half + "x", "\n" + half + "\n", "\x00" + half + "\xff", "'" + half + "'", "B" + half, "BQ" + half, "EQ" + half, "BQE" + half,
				"Q" + half + "Q", half + half, "BQAAA" + half, "EQAA\n" + half, half[1:] + half,
				repeat("x", 63) + half, repeat("B", 64) + half, repeat("EB", 1000) + half, half + repeat("QE", 1000), repeat("BQ", 500) + "\n" + half,
			} {
				checkFirst(t, n+1, api.OK, n, s)
				checkFirst(t, n+1, api.OK, n, "", s)
				checkFirst(t, n+1, api.OK, n, s, "a", "")
				checkFirst(t, n+1, api.OK, n+1, s)
				checkModel(t, n-1, s)
			}
			checkModel(t, n, half[:6]+half) // the letters of what is broken off go on with B or E
		}
	}
}

// P13.1: what is nearly a half takes none.
func TestNearlyHalf(t *testing.T) {
	a, b := Halves(28)
	for _, half := range []string{a, b} {
		for i := 1; i < len(half); i++ {
			checkFirst(t, 28, api.OK, 28, half[:i], half[i:])
			checkFirst(t, 28, api.OK, 28, half[:i]+half[i+1:])
			for _, c := range []byte{0, '\n', ' ', '0', '@', '[', '_', 'a' + half[i] - 'A', half[i] | 0x80} {
				checkFirst(t, 28, api.OK, 28, half[:i]+string([]byte{c})+half[i:])
				checkFirst(t, 28, api.OK, 28, half[:i]+string([]byte{c})+half[i+1:])
			}
		}
		for _, c := range []byte{0, '\n', '@', '[', 'A', 'C', 'D', 'F', 'b', 'e'} {
			checkFirst(t, 28, api.OK, 28, string([]byte{c})+half[1:])
		}
		checkFirst(t, 28, api.OK, 28, strings.ToLower(half), half[2:], "Q"+half[2:], "CQ"+half[2:], "QB"+half[2:])
	}
	checkFirst(t, 28, api.OK, 28, "_SEABAG_", "AAABC_SEABAG_", "BQAAAB_SEABAG_EQAAAB")
}

// P13.1: each byte behind each of a half's heads is a letter, or none: then the numbers that it could be read as are free.
func TestEachLetter(t *testing.T) {
	for b := range 256 {
		for i := range 5 {
			s := []byte("BCDEF")
			s[i] = byte(b)
			n, wrapped := 0, 0
			for _, c := range s {
				n = n*26 + int(c) - 'A'
				wrapped = wrapped*26 + int(c-'A')
			}
			for _, head := range []string{"BQ", "EQ"} {
				if b >= 'A' && b <= 'Z' {
					checkFirst(t, n+1, api.OK, n, head+string(s))
					continue
				}
				for _, free := range []int{0, n, wrapped} {
					if free >= 0 && free < all {
						checkFirst(t, free, api.OK, free, head+string(s))
					}
				}
			}
		}
	}
}

// P13.1: halves that share letters take all their numbers.
func TestHalvesWithinOneAnother(t *testing.T) {
	number := func(letters string) int {
		n := 0
		for _, c := range letters {
			n = n*26 + int(c-'A')
		}
		return n
	}
	for _, s := range []string{"BQAAAEQAAAA", "EQAAAEQAAAB", "BQABQAAAAA", "EQBQAAAAAA", "BQBQBQBQBQBQ", "EQEQEQEQEQ", "BQEQBQEQBQEQB", "BEQAAAABQAAAA"} {
		for i := 0; i+7 <= len(s); i++ {
			if head := s[i : i+2]; head == "BQ" || head == "EQ" {
				n := number(s[i+2 : i+7])
				checkFirst(t, n+1, api.OK, n, s)
			}
		}
		checkModel(t, 0, s)
	}
}

// P13.1: the least one that is free is told, also from behind and between what is taken.
func TestLeastOfSeveral(t *testing.T) {
	var halves []string
	for _, n := range []int{5, 0, 3, 1, 2, 7, 8, 26, 1} {
		a, b := Halves(n)
		halves = append(halves, []string{a, b}[len(halves)%2])
	}
	s := strings.Join(halves, "")
	for from, want := range map[int]int{-1: 4, 0: 4, 1: 4, 2: 4, 3: 4, 4: 4, 5: 6, 6: 6, 7: 9, 8: 9, 9: 9, 25: 25, 26: 27, 27: 27} {
		checkFirst(t, want, api.OK, from, s)
		checkFirst(t, want, api.OK, from, halves...)
		checkFirst(t, want, api.OK, from, append(slices.Clone(halves), halves...)...)
	}
	checkFirst(t, all-1, api.OK, all-3, Of(all-3), Of(all-2))
	checkFirst(t, all-2, api.OK, all-2, Of(all-3), Of(all-1))
	checkFirst(t, all-4, api.OK, all-4, Of(all-3), Of(all-1))
}

// P13.1: none is left.
func TestNoneLeft(t *testing.T) {
	checkFirst(t, 0, api.ErrTag, all-1, Of(all-1))
	checkFirst(t, 0, api.ErrTag, all-2, Of(all-1)+Of(all-2))
	checkFirst(t, 0, api.ErrTag, all-2, "EQZZZZZ", "BQZZZZY")
	checkFirst(t, all-2, api.OK, all-2, Of(all-1))
	var texts []string
	for n := all - 3000; n < all; n++ {
		a, b := Halves(n)
		texts = append(texts, []string{a, b}[n%2])
	}
	checkFirst(t, 0, api.ErrTag, all-3000, texts...)
	checkFirst(t, 0, api.ErrTag, all-1500, strings.Join(texts, ""))
	checkFirst(t, all-3001, api.OK, all-3001, texts...)
	texts[1234] = "BQAAAAA"
	checkFirst(t, all-3000+1234, api.OK, all-3000, texts...)
	checkFirst(t, 0, api.ErrTag, all-3000+1235, texts...)
}

// P13.1: every number is taken, in two texts; and every one but one.
func TestAllTaken(t *testing.T) {
	lists := [2][]byte{}
	for n := range all {
		a, b := Halves(n)
		lists[n%2] = append(lists[n%2], []string{b, a}[n/2%2]...)
	}
	even, odd := string(lists[0]), string(lists[1])
	checkFirst(t, 0, api.ErrTag, 0, even, odd)
	checkFirst(t, 0, api.ErrTag, 7654321, odd, even)
	checkFirst(t, 1, api.OK, 0, even)
	const left = 11234567
	odd = odd[:left/2*7] + "BQAAAAA" + odd[(left/2+1)*7:]
	checkFirst(t, left, api.OK, -1, even, odd)
	checkFirst(t, 0, api.ErrTag, left+1, even, odd)
}

// P13.1: texts by chance, in which low numbers are taken often, held against the model.
func TestFirstByChance(t *testing.T) {
	r := rand.New(rand.NewSource(1302))
	pieces := []string{"BQ", "EQ", "B", "E", "Q", "A", "AA", "AAA", "AAAA", "AAAAA", "AAAAB", "C", "\n", "_SEABAG_", "a"}
	for n := range 12 {
		a, b := Halves(n)
		pieces = append(pieces, a, b, Of(n), a[:6], b[:5])
	}
	for range 20000 {
		var texts []string
		for range r.Intn(5) {
			texts = append(texts, pick(r, r.Intn(12), pieces...))
		}
		checkModel(t, r.Intn(16)-2, texts...)
		if text := strings.Join(texts, ""); len(texts) > 1 {
			checkModel(t, 0, text)
		}
	}
	last := []string{"BQZZZZ", "EQZZZZ", "A", "Y", "X", "Z", "Z"}
	for range 5000 {
		checkModel(t, all-1-r.Intn(30), pick(r, r.Intn(200), last...))
	}
}

// P13.1, P1: great texts and many texts.
func TestFirstOfMuch(t *testing.T) {
	checkFirst(t, 0, api.OK, 0, repeat("B", 1<<22), repeat("Q", 1<<22), repeat("EB", 1<<21), repeat("\x00", 1<<22))
	checkFirst(t, 0, api.OK, 0, repeat("BQ", 1<<22), repeat("EQ", 1<<22))
	var texts []string
	var all strings.Builder
	for n := range 1 << 16 {
		a, b := Halves(n)
		texts = append(texts, []string{a, b}[n/3%2]+"\n")
		all.WriteString(texts[n])
	}
	checkFirst(t, 1<<16, api.OK, 0, texts...)
	checkFirst(t, 1<<16, api.OK, 77, all.String())
	texts[54321] = ""
	checkFirst(t, 54321, api.OK, 0, texts...)
	checkFirst(t, 1<<16, api.OK, 54322, texts...)
}

// P13.1: what is handed in stays as it was, its spare room too; and again the same is told.
func TestHandedInStays(t *testing.T) {
	whole := []string{".seabag", Of(0), "b", "a", "spare", "spare"}
	was := slices.Clone(whole)
	l := whole[:4]
	for range 2 {
		checkFirst(t, 1, api.OK, 0, l...)
		checkStage(t, ".seabag-1", l...)
		checkStage(t, ".seabag", l[1:]...)
		checkFirst(t, 0, api.OK, 0, l[2:]...)
	}
	if !slices.Equal(whole, was) {
		t.Errorf("%q was %q", whole, was)
	}
}

// turned is a text some of whose 32 bits from a place on are turned: those that mask has.
func turned(s string, at int, mask uint32) string {
	b := []byte(s)
	for i := range 32 {
		if p := at + i; mask>>i&1 == 1 && p >= 0 && p < 8*len(b) {
			b[p/8] ^= 0x80 >> (p % 8)
		}
	}
	return string(b)
}

// repair answers a text with the bits from a place on turned, by which at most 32 of them become those of want.
func repair(s, want string, at int) string {
	var mask uint32
	for i := range 32 {
		if p := at + i; p >= 0 && p < 8*len(s) && (s[p/8]^want[p/8])&(0x80>>(p%8)) != 0 {
			mask |= 1 << i
		}
	}
	return turned(s, at, mask)
}

// P13.2: a number whose tag may come to stand in a text, by turning 32 bits at most, isn't told.
func TestSpoiltTagIsTaken(t *testing.T) {
	r := rand.New(rand.NewSource(1303))
	for _, n := range []int{0, 1, 26, 27, 675, 12345, all - 2} {
		whole := Of(n)
		for at := -31; at < 8*len(whole); at++ {
			for _, mask := range []uint32{1, 1 << 31, 0x80000001, 0xffffffff, 0xff, 0xff000000, 0x20202020, r.Uint32(), r.Uint32() | 1<<31 | 1} {
				spoilt := turned(whole, at, mask)
				if repair(spoilt, whole, at) != whole {
					t.Fatalf("%q from %q at %d: not turned back", spoilt, whole, at)
				}
				if told, _ := First(n, "a\n"+spoilt+"\n"); told == n {
					t.Errorf("First from %d of %q: %d", n, spoilt, n)
				}
				checkModel(t, n, spoilt)
				checkModel(t, n, spoilt+spoilt, "x"+spoilt)
			}
		}
	}
}

// P13.2: the tag that First tells doesn't come to stand in a text, wherever 32 bits are made as alike to it as may be, or turned by chance.
func TestTurnedBits(t *testing.T) {
	r := rand.New(rand.NewSource(1304))
	pieces := []string{"A", "AAAA", "_SEABAG_", "_SEABAG", "SEABAG_", "\n", "BQ", "EQ", "BQAAAA", "EQAAAA", "Q"}
	for n := range 8 {
		a, b := Halves(n)
		pieces = append(pieces, a, b, Of(n), a+"_SEABAG_", "_SEABAG_"+b)
	}
	for range 300 {
		s := pick(r, 2+r.Intn(8), pieces...)
		n, e := First(0, s)
		whole := Of(n)
		if e != api.OK || strings.Contains(s, whole) {
			t.Fatalf("First of %q: %d %d", s, n, e)
		}
		for at := 0; at+len(whole) <= len(s); at++ {
			alike := s[:at] + whole + s[at+len(whole):]
			for bit := 8*at - 31; bit < 8*(at+len(whole)); bit++ {
				if near := repair(s, alike, bit); strings.Contains(near, whole) {
					t.Fatalf("%q, of %q, has %s", near, s, whole)
				}
			}
		}
		for range 100 {
			if near := turned(s, r.Intn(8*len(s)), r.Uint32()); strings.Contains(near, whole) {
				t.Fatalf("%q, of %q, has %s", near, s, whole)
			}
		}
	}
}

// P13.2: known staging names.
func TestKnownStages(t *testing.T) {
	checkStage(t, ".seabag")
	for _, name := range []string{
		"", "a", "seabag", ".seabag-1", ".seabag-", ".seabag-0", ".Seabag", ".SEABAG", ".seabag ", " .seabag", "./.seabag", ".seabag/", ".seabag/a",
		".seabag\x00", ".seabag\n", ".seaba", ".seabag1", ".seabag-2", "_SEABAG_", "\xff",
	} {
		checkStage(t, ".seabag", name)
		checkStage(t, ".seabag", name, ".seabag-1", name)
		checkStage(t, ".seabag-3", name, ".seabag-1", ".seabag", ".seabag-2")
	}
	for _, name := range []string{".seabag-01", ".seabag--1", ".seabag-1 ", ".seabag-+1", ".seabag-1.0", ".seabag-1/", ".seabag-10", ".seabag-11", ".seabag-0", ".seabag-a"} {
		checkStage(t, ".seabag-1", name, ".seabag")
	}
	checkStage(t, ".seabag-1", ".seabag")
	checkStage(t, ".seabag-1", ".seabag", ".seabag")
	checkStage(t, ".seabag-1", "b", ".seabag", "a")
	checkStage(t, ".seabag-2", ".seabag", ".seabag-1")
	checkStage(t, ".seabag-2", ".seabag-1", ".seabag-1", ".seabag")
	checkStage(t, ".seabag-1", ".seabag", ".seabag-2", ".seabag-3")
	checkStage(t, ".seabag-2", ".seabag-3", ".seabag", ".seabag-1", ".seabag-4")
}

// P13.2: staging names of many names, each with those before it taken; they are names.
func TestManyStages(t *testing.T) {
	l := []string{".seabag"}
	for n := 1; n < 1100; n++ {
		want := ".seabag-" + strconv.Itoa(n)
		checkStage(t, want, l...)
		if !path.Name(want) {
			t.Errorf("%q is no name", want)
		}
		l = append(l, want)
	}
	for len(l) < 1<<17 {
		l = append(l, ".seabag-"+strconv.Itoa(len(l)))
	}
	checkStage(t, ".seabag-131072", l...)
	slices.Reverse(l)
	checkStage(t, ".seabag-131072", l...)
	checkStage(t, ".seabag", l[:len(l)-1]...)
	l[7] = repeat("n", 1<<20)
	checkStage(t, ".seabag-131064", l...)
}

// P13.2: names by chance, held against the model.
func TestStageByChance(t *testing.T) {
	r := rand.New(rand.NewSource(1305))
	for range 20000 {
		var names []string
		for range r.Intn(14) {
			if r.Intn(3) > 0 {
				names = append(names, ".seabag-"+strconv.Itoa(r.Intn(8)))
			} else {
				names = append(names, pick(r, 1+r.Intn(2), ".seabag", ".seabag", ".seabag-1", "-1", "-2", "0", "a", ""))
			}
		}
		checkStage(t, modelStage(names), names...)
	}
}
