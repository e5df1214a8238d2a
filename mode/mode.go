// Package mode is layer 1: see shared/doc/01-mode.md.
package mode

import (
	"strings"

	"seabag/api"
)

// The bits beside the three times three.
const (
	SetUser  = 0o4000
	SetGroup = 0o2000
	Sticky   = 0o1000
	All      = 0o7777
)

// The nine bits, by who is meant and by what may be done.
const (
	user    = 0o700
	group   = 0o070
	others  = 0o007
	read    = 0o444
	write   = 0o222
	execute = 0o111
)

// Right tells whether a number is a mode.
func Right(m int) bool { return m >= 0 && m <= All }

// Octal is a mode in four digits.
func Octal(m int) string {
	return string([]byte{octalDigit(m >> 9), octalDigit(m >> 6), octalDigit(m >> 3), octalDigit(m)})
}

func octalDigit(n int) byte { return '0' + byte(n&7) }

// Fresh is a mode without the bits of a mask.
func Fresh(m, mask int) int { return m &^ lowestNine(mask) }

func lowestNine(mask int) int { return mask & (user | group | others) }

// Change is the mode that a text says, of a mode as it is, of a directory or not, under a mask.
func Change(s string, m int, dir bool, mask int) (int, api.Errno) {
	if s != "" && s[0] >= '0' && s[0] <= '9' {
		return readOctal(s)
	}
	for more := true; more; {
		var clause string
		var ok bool
		clause, s, more = strings.Cut(s, ",")
		m, ok = doClause(clause, m, dir, mask)
		if !ok {
			return 0, api.ErrForm
		}
	}
	return m, api.OK
}

func readOctal(s string) (int, api.Errno) {
	m := 0
	for i := range len(s) {
		if s[i] < '0' || s[i] > '7' {
			return 0, api.ErrForm
		}
		m = m*8 + int(s[i]-'0')
		if m > All {
			return 0, api.ErrRange
		}
	}
	return m, api.OK
}

// doClause answers false if the text is no clause.
func doClause(s string, m int, dir bool, mask int) (int, bool) {
	who, at := readWho(s)
	kept := 0
	if at == 0 {
		who, kept = user|group|others, lowestNine(mask)
	}
	if at == len(s) {
		return 0, false
	}
	for at < len(s) {
		sign := s[at]
		// X is asked of the mode ahead of the action, even ahead of what = takes away.
		bits, end, ok := readBits(s, at+1, who, dir || m&execute != 0)
		if !ok {
			return 0, false
		}
		m, ok = act(sign, m, bits, who, kept)
		if !ok {
			return 0, false
		}
		at = end
	}
	return m, true
}

// readWho answers the bits of those who are said at the text's beginning, and the place behind them.
func readWho(s string) (who, at int) {
next:
	if at == len(s) {
		return who, at
	}
	switch s[at] {
	case 'u':
		who |= user
	case 'g':
		who |= group
	case 'o':
		who |= others
	case 'a':
		who |= user | group | others
	default:
		return who, at
	}
	at++
	goto next
}

// readBits answers the bits of the letters from a place on, and the place of the sign behind them, or the text's end.
func readBits(s string, at, who int, mayExecute bool) (bits, end int, ok bool) {
	for ; at < len(s); at++ {
		switch s[at] {
		case 'r':
			bits |= read & who
		case 'w':
			bits |= write & who
		case 'x':
			bits |= execute & who
		case 'X':
			if mayExecute {
				bits |= execute & who
			}
		case 's':
			bits |= setBits(who)
		case 't':
			bits |= Sticky
		case '+', '-', '=':
			return bits, at, true
		default:
			return 0, 0, false
		}
	}
	return bits, at, true
}

// setBits are SetUser and SetGroup, as far as the user and the group are meant.
func setBits(who int) int {
	bits := 0
	if who&user != 0 {
		bits |= SetUser
	}
	if who&group != 0 {
		bits |= SetGroup
	}
	return bits
}

// act does one action, which leaves the kept bits as they are; false: its sign is none.
func act(sign byte, m, bits, who, kept int) (int, bool) {
	switch sign {
	case '+':
		return m | bits&^kept, true
	case '-':
		return m &^ (bits &^ kept), true
	case '=':
		// Sticky belongs to nobody who could be meant, so it stays.
		cleared := m &^ ((who | setBits(who)) &^ kept)
		return cleared | bits&^kept, true
	}
	return 0, false
}

// Letters are a mode as it is listed, behind a kind's letter.
func Letters(kind byte, m int) string {
	l := []byte{kind}
	put := func(bit int, letter byte) {
		if m&bit == 0 {
			letter = '-'
		}
		l = append(l, letter)
	}
	putThree := func(who, beside int, both, alone byte) {
		put(who&read, 'r')
		put(who&write, 'w')
		switch {
		case m&beside == 0:
			put(who&execute, 'x')
		case m&who&execute != 0:
			put(beside, both)
		default:
			put(beside, alone)
		}
	}
	putThree(user, SetUser, 's', 'S')
	putThree(group, SetGroup, 's', 'S')
	putThree(others, Sticky, 't', 'T')
	return string(l)
}
