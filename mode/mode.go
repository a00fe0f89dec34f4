// Package mode is layer 1, the permission bits: what they allow, how they are
// printed, and how a change that is written as text alters them.
package mode

import (
	"strings"

	"almoner/api"
)

// The bits of a mode. Each of the three rights stands in three groups: the
// owner's, the group's and the others'.
const (
	setUser  = 0o4000
	sticky   = 0o1000
	owners   = 0o700
	groups   = 0o070
	others   = 0o007
	reading  = 0o444
	writing  = 0o222
	searches = 0o111
	all      = setUser | sticky | owners | groups | others
)

// maxOctal is the most digits that an octal number may have.
const maxOctal = 5

// Right reports whether a number is a mode.
func Right(mode int) bool {
	return mode&^all == 0
}

// May reports whether a user may access an inode in all the ways of want.
func May(mode, owner, group int, dir bool, uid, gid, want int) bool {
	if !Right(mode) || want < api.Search || want > api.Read+api.Write+api.Search {
		return false
	}
	if uid == 0 {
		return want&api.Search == 0 || dir || mode&searches != 0
	}
	granted := mode
	switch {
	case uid == owner:
		granted >>= 6
	case gid == group:
		granted >>= 3
	}
	return want&^granted == 0
}

// Text returns a kind and a mode as ten bytes.
func Text(kind, mode int) string {
	first, ok := kindLetter(kind)
	if !ok || !Right(mode) {
		return ""
	}
	const letters = "rwx"
	text := []byte{first}
	for i := range 9 {
		letter := byte('-')
		if mode&(0o400>>i) != 0 {
			letter = letters[i%len(letters)]
		}
		text = append(text, letter)
	}
	if mode&setUser != 0 {
		text[3] = markedSearch(text[3], 's', 'S')
	}
	if mode&sticky != 0 {
		text[9] = markedSearch(text[9], 't', 'T')
	}
	return string(text)
}

func kindLetter(kind int) (byte, bool) {
	switch kind {
	case api.KindFile:
		return '-', true
	case api.KindDir:
		return 'd', true
	case api.KindTty:
		return 'c', true
	}
	return 0, false
}

// markedSearch returns what stands in the place of a search right when
// set-user-id or sticky is printed there, too.
func markedSearch(letter, with, alone byte) byte {
	if letter == 'x' {
		return with
	}
	return alone
}

// Octal returns the mode that s denotes with octal digits.
func Octal(s string) (int, bool) {
	if len(s) < 1 || len(s) > maxOctal {
		return 0, false
	}
	mode := 0
	for i := range len(s) {
		if s[i] < '0' || s[i] > '7' {
			return 0, false
		}
		mode = mode<<3 | int(s[i]-'0')
	}
	if !Right(mode) {
		return 0, false
	}
	return mode, true
}

// Change returns the mode that results from a change, symbolic or octal.
func Change(s string, mode int, dir bool) (int, bool) {
	if !Right(mode) {
		return 0, false
	}
	if octal, ok := Octal(s); ok {
		return octal, true
	}
	for more := true; more; {
		var clause string
		var ok bool
		clause, s, more = strings.Cut(s, ",")
		mode, ok = applyClause(clause, mode, dir)
		if !ok {
			return 0, false
		}
	}
	return mode, true
}

// applyClause applies the actions of one clause, such as go-w, from left to
// right.
func applyClause(clause string, mode int, dir bool) (int, bool) {
	classes, actions := splitClasses(clause)
	if actions == "" {
		return 0, false
	}
	for actions != "" {
		sign := actions[0]
		var listed int
		listed, actions = takeListed(actions[1:], mode, dir)
		switch sign {
		case '+':
			mode |= listed & classes
		case '-':
			mode &^= listed & classes
		case '=':
			mode = mode&^classes | listed&classes
		default:
			return 0, false
		}
	}
	return mode, true
}

// splitClasses returns all the bits that belong to the classes which a clause
// names, and the clause's actions. Set-user-id counts as a bit of the owner's
// class and sticky as one of the others', so that one mask serves all signs.
func splitClasses(clause string) (int, string) {
	named := 0
	for i := range len(clause) {
		switch clause[i] {
		case 'u':
			named |= setUser | owners
		case 'g':
			named |= groups
		case 'o':
			named |= sticky | others
		case 'a':
			named |= all
		default:
			if i == 0 {
				named = all
			}
			return named, clause[i:]
		}
	}
	return named, ""
}

// takeListed returns the bits that the letters at the front of s mean for all
// the classes, and what follows these letters. The mode is the one ahead of
// the action: X asks it before a sign = clears anything.
func takeListed(s string, mode int, dir bool) (int, string) {
	listed := 0
	for i := range len(s) {
		switch s[i] {
		case 'r':
			listed |= reading
		case 'w':
			listed |= writing
		case 'x':
			listed |= searches
		case 'X':
			if dir || mode&searches != 0 {
				listed |= searches
			}
		case 's':
			listed |= setUser
		case 't':
			listed |= sticky
		default:
			return listed, s[i:]
		}
	}
	return listed, ""
}
