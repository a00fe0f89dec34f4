package parse

import "almoner/api"

// beginsRedir reports whether a token begins a redir. A TokIO always has an
// operator of a redir behind it.
func beginsRedir(token api.Token) bool {
	switch token.Text {
	case "<", ">", ">>", "<&", ">&", "<>", ">|":
		return true
	}
	return token.Kind == api.TokIO
}

// isFirst reports whether a token can be the first word of a command.
func isFirst(token api.Token) bool {
	return token.Kind == api.TokWord && (!isReserved(token.Text) || token.Text == "in")
}

func isReserved(word string) bool {
	switch word {
	case "!", "{", "}", "case", "do", "done", "elif", "else", "esac", "fi", "for",
		"if", "in", "then", "until", "while":
		return true
	}
	return false
}

// isSet reports whether a token begins with a name and `=`.
func isSet(token api.Token) bool {
	size := nameSize(token.Text)
	return 0 < size && size < len(token.Text) && token.Text[size] == '='
}

func isName(s string) bool {
	return s != "" && nameSize(s) == len(s)
}

// nameSize returns the length of the name with which s begins, or 0 if it begins
// with none.
func nameSize(s string) int {
	size := 0
	for size < len(s) && (isLetter(s[size]) || size > 0 && isDigit(s[size])) {
		size++
	}
	return size
}

func isLetter(b byte) bool {
	return 'a' <= b && b <= 'z' || 'A' <= b && b <= 'Z' || b == '_'
}

func isDigit(b byte) bool {
	return '0' <= b && b <= '9'
}
