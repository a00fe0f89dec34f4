package arith

import "strings"

const blanks = " \t\n"

// longestSign is the number of bytes of the longest operators.
const longestSign = 3

// tokens splits an expression into its constants, names and operators.
func tokens(s string) []string {
	var l []string
	for s = strings.TrimLeft(s, blanks); s != ""; s = strings.TrimLeft(s, blanks) {
		size := tokenSize(s)
		l = append(l, s[:size])
		s = s[size:]
	}
	return l
}

// tokenSize returns the length of the token with which s begins.
func tokenSize(s string) int {
	if isConstant(s) {
		_, size := constant(s)
		return size
	}
	if isName(s) {
		return nameSize(s)
	}
	return signSize(s)
}

// isConstant reports whether s begins with a constant.
func isConstant(s string) bool {
	return isDigit(s[0])
}

// isName reports whether s begins with a name.
func isName(s string) bool {
	return isLetter(s[0])
}

func isDigit(b byte) bool {
	return '0' <= b && b <= '9'
}

func isLetter(b byte) bool {
	return 'a' <= b && b <= 'z' || 'A' <= b && b <= 'Z' || b == '_'
}

func nameSize(s string) int {
	size := 0
	for size < len(s) && (isLetter(s[size]) || isDigit(s[size])) {
		size++
	}
	return size
}

// signSize returns the length of the longest operator with which s begins.
func signSize(s string) int {
	for size := min(longestSign, len(s)); size > 0; size-- {
		if isSign(s[:size]) {
			return size
		}
	}
	panic(syntaxError{})
}

// isSign reports whether s is an operator. A parenthesis is read as one, too.
func isSign(s string) bool {
	switch s {
	case "?", ":", "||", "&&", "|", "^", "&", "==", "!=", "<", "<=", ">", ">=",
		"<<", ">>", "+", "-", "*", "/", "%", "~", "!", "(", ")":
		return true
	}
	return isAssign(s)
}

// isAssign reports whether s is an operator that assigns.
func isAssign(s string) bool {
	switch s {
	case "=", "*=", "/=", "%=", "+=", "-=", "<<=", ">>=", "&=", "^=", "|=":
		return true
	}
	return false
}

// constant returns the value of the constant with which s begins, and its
// length, which is 0 if s begins with none.
func constant(s string) (int64, int) {
	base, size := baseOf(s)
	value := uint64(0)
	for size < len(s) && digitOf(s[size]) < base {
		value = value*base + digitOf(s[size])
		size++
	}
	return int64(value), size
}

// baseOf returns the base in which s is written, and how many bytes say so that
// are not digits of the value.
func baseOf(s string) (uint64, int) {
	switch {
	case len(s) > 2 && s[0] == '0' && (s[1] == 'x' || s[1] == 'X') && digitOf(s[2]) < 16:
		return 16, 2
	case s != "" && s[0] == '0':
		return 8, 0
	}
	return 10, 0
}

// digitOf returns the value of a digit, or 16 for a byte that is none in any base.
func digitOf(b byte) uint64 {
	switch {
	case isDigit(b):
		return uint64(b - '0')
	case 'a' <= b && b <= 'f':
		return uint64(b-'a') + 10
	case 'A' <= b && b <= 'F':
		return uint64(b-'A') + 10
	}
	return 16
}
