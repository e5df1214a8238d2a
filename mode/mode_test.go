package mode

import (
	"fmt"
	"math"
	"regexp"
	"strings"
	"testing"

	"seabag/api"
)

// P1.1

func TestRight(t *testing.T) {
	for m := -2; m <= All+2; m++ {
		if got, want := Right(m), m >= 0 && m <= 4095; got != want {
			t.Errorf("Right(%d) = %v", m, got)
		}
	}
	for _, m := range []int{math.MinInt, math.MaxInt, 1 << 32, -4096, 1<<32 + 0o644} {
		if Right(m) {
			t.Errorf("Right(%d)", m)
		}
	}
}

func TestOctal(t *testing.T) {
	for m := range All + 1 {
		if got, want := Octal(m), fmt.Sprintf("%04o", m); got != want {
			t.Errorf("Octal(%o) = %q", m, got)
		}
	}
}

func TestFresh(t *testing.T) {
	for _, x := range []struct{ m, mask, want int }{
		{0, 0, 0}, {0o666, 0o022, 0o644}, {0o777, 0o777, 0}, {0o777, 0, 0o777}, {0o644, 0o022, 0o644},
		{0o7777, 0o7777, 0o7000}, {0o7777, 0o7000, 0o7777}, {0o4777, 0o7022, 0o4755}, {0o1777, 0o1077, 0o1700},
	} {
		if got := Fresh(x.m, x.mask); got != x.want {
			t.Errorf("Fresh(%o, %o) = %o, not %o", x.m, x.mask, got, x.want)
		}
	}
}

// P1.2

func TestChangeDigits(t *testing.T) {
	for _, x := range []struct {
		s    string
		want int
		e    api.Errno
	}{
		{"0", 0, api.OK}, {"644", 0o644, api.OK}, {"7", 7, api.OK}, {"7777", All, api.OK},
		{"000000000000000000000000000000007777", All, api.OK},
		{"10000", 0, api.ErrRange}, {"17777", 0, api.ErrRange}, {strings.Repeat("7", 100), 0, api.ErrRange},
		{"8", 0, api.ErrForm}, {"9", 0, api.ErrForm}, {"0x1", 0, api.ErrForm}, {"0o7", 0, api.ErrForm}, {"64 ", 0, api.ErrForm},
		{"644,u+x", 0, api.ErrForm}, {"6+x", 0, api.ErrForm}, {"7/", 0, api.ErrForm}, {"7\x00", 0, api.ErrForm},
		// The first that is wrong is told.
		{"77778", 0, api.ErrForm}, {"100008", 0, api.ErrRange}, {"777777a", 0, api.ErrRange}, {"1000a0", 0, api.ErrForm},
	} {
		for _, m := range []int{0, 0o644, All} {
			got, e := Change(x.s, m, m == 0, m)
			if got != x.want || e != x.e {
				t.Errorf("Change(%q, %o) = %o, %d", x.s, m, got, e)
			}
		}
	}
}

func TestChangeClauses(t *testing.T) {
	for _, x := range []struct {
		s    string
		m    int
		dir  bool
		mask int
		want int
	}{
		{"u+x,go-w", 0o666, false, 0, 0o744},
		// Who.
		{"u+rwx", 0, false, 0o777, 0o700}, {"g+rwx", 0, false, 0o777, 0o070}, {"o+rwx", 0, false, 0o777, 0o007}, {"a+rwx", 0, false, 0o777, 0o777},
		{"uo+r", 0, false, 0, 0o404}, {"uuu+r", 0, false, 0, 0o400}, {"oa+r", 0, false, 0, 0o444}, {"ugo=r", 0o777, false, 0o777, 0o444},
		// Letters may be none, or stand twice.
		{"+", 0o751, false, 0, 0o751}, {"u-", 0o751, false, 0, 0o751}, {"u=", 0o751, false, 0, 0o051}, {"u+rr", 0, false, 0, 0o400},
		// Actions one behind the other, of the same who.
		{"u+r-r+w", 0, false, 0, 0o200}, {"g=rw+x-w", 0o707, false, 0, 0o757}, {"u=r,u=w", 0, false, 0, 0o200}, {"u+-=+r", 0o700, false, 0, 0o400},
		// X looks at the mode as it is ahead of the action.
		{"a+X", 0o644, false, 0, 0o644}, {"a+X", 0o644, true, 0, 0o755}, {"a+X", 0o645, false, 0, 0o755}, {"a=X", 0o610, false, 0, 0o111},
		{"u=rX", 0o100, false, 0, 0o500}, {"u-x+X", 0o100, false, 0, 0}, {"u-x,a+X", 0o110, false, 0, 0o111}, {"a-X", 0o711, false, 0, 0o600},
		{"u+x,a+X", 0, false, 0, 0o111}, {"o=X", 0o6, false, 0, 0}, {"o=X", 0o6, true, 0, 0o1}, {"g+xX", 0, false, 0, 0o010}, {"u+X", 0o7000, false, 0, 0o7000},
		// s and t.
		{"+s", 0, false, 0, 0o6000}, {"a+s", 0, false, 0, 0o6000}, {"u+s", 0, false, 0, 0o4000}, {"g+s", 0, false, 0, 0o2000}, {"o+s", 0o644, false, 0, 0o644},
		{"u-s", All, false, 0, 0o3777}, {"g-s", All, false, 0, 0o5777}, {"o-s", All, false, 0, All}, {"-s", All, false, 0, 0o1777},
		{"+t", 0, false, 0, 0o1000}, {"u+t", 0, false, 0, 0o1000}, {"g+t", 0, false, 0, 0o1000}, {"o+t", 0, false, 0, 0o1000}, {"u-t", All, false, 0, 0o6777},
		// = takes away SetUser and SetGroup of those who are meant, and never Sticky.
		{"=", All, false, 0, 0o1000}, {"u=", All, false, 0, 0o3077}, {"g=", All, false, 0, 0o5707}, {"o=", All, false, 0, 0o7770}, {"a=", All, true, 0, 0o1000},
		{"u=s", 0o755, false, 0, 0o4055}, {"o=t", 0o7, false, 0, 0o1000}, {"ug=rs", 0o7777, false, 0, 0o7447},
		// The mask's lowest nine stay as they are if nobody is said.
		{"+w", 0o444, false, 0o022, 0o644}, {"-x", 0o777, false, 0o001, 0o667}, {"=r", 0o777, false, 0o070, 0o474}, {"=", 0o777, false, 0o777, 0o777},
		{"+rwx", 0, false, 0o777, 0}, {"=", All, false, 0o777, 0o1777}, {"+st", 0, false, All, 0o7000}, {"-st", All, false, All, 0o777}, {"=rw", 0o123, false, 0o707, 0o163},
		{"+X", 0, true, 0o011, 0o100}, {"a=r", 0o777, false, 0o777, 0o444}, {"+r,u+w", 0, false, 0o444, 0o200}, {"u+w,+r", 0, false, 0o044, 0o600},
	} {
		got, e := Change(x.s, x.m, x.dir, x.mask)
		if got != x.want || e != api.OK {
			t.Errorf("Change(%q, %o, %v, %o) = %o, %d, not %o", x.s, x.m, x.dir, x.mask, got, e, x.want)
		}
	}
}

func TestChangeWrong(t *testing.T) {
	for _, s := range []string{
		"", "u", "ugo", "a,", ",", ",,", "u+x,", ",u+x", "u+x,,g+x", "u+x,g", "u+x,644", "u=644", "+u", "g=u", "u+x g", "u +x", " u+x", "u+x\n",
		"x", "rwx", "u+q", "u+R", "U+r", "z+r", "u+xu", "u+xg+r", "u+r8", "u!r", "-rwxu", "\x00", "u+\xff", "u+r,o~", "+8",
	} {
		for _, m := range []int{0, 0o755, All} {
			if got, e := Change(s, m, m == 0, 0); got != 0 || e != api.ErrForm {
				t.Errorf("Change(%q, %o) = %o, %d", s, m, got, e)
			}
		}
	}
}

// TestChangeShort holds every short text against the words of the chapter, bit by bit.
func TestChangeShort(t *testing.T) {
	isChange := regexp.MustCompile(`\A[ugoa]*([-+=][rwxXst]*)+(,[ugoa]*([-+=][rwxXst]*)+)*\z`)
	modes := []int{0, 0o644, 0o2751, 0o4106, All}
	masks := []int{0, 0o7022, 0o135}
	var grow func(s string, room int)
	grow = func(s string, room int) {
		fits := isChange.MatchString(s)
		for _, m := range modes {
			for _, mask := range masks {
				for _, dir := range []bool{false, true} {
					want, wantErr := 0, api.ErrForm
					if fits {
						want, wantErr = slowChange(s, m, dir, mask), api.OK
					}
					if got, e := Change(s, m, dir, mask); got != want || e != wantErr {
						t.Fatalf("Change(%q, %o, %v, %o) = %o, %d, not %o, %d", s, m, dir, mask, got, e, want, wantErr)
					}
				}
			}
		}
		if room == 0 {
			return
		}
		for _, c := range "ugoa+-=rwxXst,q" {
			grow(s+string(c), room-1)
		}
	}
	grow("", 4)
	for _, head := range []string{"u=", "g+x-", "o-,u", "=x", "go+r=w"} {
		grow(head, 3)
	}
}

var actionOf = regexp.MustCompile(`[-+=][rwxXst]*`)

func slowChange(s string, m int, dir bool, mask int) int {
	for _, clause := range strings.Split(s, ",") {
		who := clause[:strings.IndexAny(clause, "+-=")]
		for _, action := range actionOf.FindAllString(clause, -1) {
			m = slowAction(action[0], action[1:], who, m, dir, mask)
		}
	}
	return m
}

func slowAction(sign byte, letters, who string, m int, dir bool, mask int) int {
	mayExecute := dir || m&0o111 != 0
	after := 0
	for bit := range 12 {
		set := m>>bit&1 == 1
		named, cleared := false, false
		if bit < 9 {
			owner := "ogu"[bit/3 : bit/3+1]
			meant := who == "" || strings.ContainsAny(who, owner+"a")
			letter := "xwr"[bit%3 : bit%3+1]
			if letter == "x" && mayExecute {
				letter = "xX"
			}
			named, cleared = meant && strings.ContainsAny(letters, letter), meant
			if who == "" && mask>>bit&1 == 1 {
				named, cleared = false, false
			}
		} else if bit == 9 {
			named = strings.Contains(letters, "t")
		} else {
			owner := map[int]string{10: "g", 11: "u"}[bit]
			cleared = who == "" || strings.ContainsAny(who, owner+"a")
			named = cleared && strings.Contains(letters, "s")
		}
		switch sign {
		case '+':
			set = set || named
		case '-':
			set = set && !named
		case '=':
			set = set && !cleared || named
		}
		if set {
			after |= 1 << bit
		}
	}
	return after
}

func TestChangeLong(t *testing.T) {
	s := strings.Repeat("u+x-x,", 100000) + strings.Repeat("ugoa", 100000) + "=" + strings.Repeat("rx", 100000)
	if m, e := Change(s, 0o4666, false, 0o777); m != 0o555 || e != api.OK {
		t.Errorf("%o, %d", m, e)
	}
	if m, e := Change(strings.Repeat("0", 1<<20)+"755", 0, false, 0); m != 0o755 || e != api.OK {
		t.Errorf("%o, %d", m, e)
	}
}

// P1.3

func TestLetters(t *testing.T) {
	for m, want := range map[int]string{
		0: "d---------", 0o755: "drwxr-xr-x", 0o124: "d--x-w-r--", All: "drwsrwsrwt", 0o7000: "d--S--S--T", 0o1640: "drw-r----T",
		0o4100: "d--s------", 0o4011: "d--S--x--x", 0o2010: "d-----s---", 0o2101: "d--x--S--x", 0o1001: "d--------t", 0o1110: "d--x--x--T",
	} {
		if got := Letters('d', m); got != want {
			t.Errorf("Letters('d', %o) = %q, not %q", m, got, want)
		}
	}
}

func TestLettersOfAllModes(t *testing.T) {
	three := func(bits, beside int, signs string) string {
		last := bits & 1
		if beside != 0 {
			last += 2
		}
		return []string{"-", "r"}[bits>>2&1] + []string{"-", "w"}[bits>>1&1] + []string{"-", "x", signs[:1], signs[1:]}[last]
	}
	for m := range All + 1 {
		want := "l" + three(m>>6, m&SetUser, "Ss") + three(m>>3, m&SetGroup, "Ss") + three(m, m&Sticky, "Tt")
		if got := Letters('l', m); got != want {
			t.Fatalf("Letters('l', %o) = %q, not %q", m, got, want)
		}
	}
}

// A kind is a byte as it is, not a rune that could become two.
func TestLettersOfAnyKind(t *testing.T) {
	for kind := range 256 {
		got := Letters(byte(kind), 0o750)
		if len(got) != 10 || got[0] != byte(kind) || got[1:] != "rwxr-x---" {
			t.Errorf("Letters(%d) = %q", kind, got)
		}
	}
}

// P1

func TestNothingPanics(t *testing.T) {
	odd := []int{math.MinInt, math.MinInt + 1, -4096, -1, All + 1, 1 << 20, 1 << 40, math.MaxInt}
	for _, m := range odd {
		Right(m)
		Octal(m)
		Letters(0, m)
		for _, mask := range append(odd, 0, 0o22) {
			Fresh(m, mask)
			for _, s := range []string{"", "644", "+x", "a=X", "u+s,-t", "=", "q", "99999999999999999999"} {
				Change(s, m, mask < 0, mask)
			}
		}
	}
}

func TestConstants(t *testing.T) {
	if SetUser != 0o4000 || SetGroup != 0o2000 || Sticky != 0o1000 || All != 0o7777 {
		t.Error(SetUser, SetGroup, Sticky, All)
	}
}
