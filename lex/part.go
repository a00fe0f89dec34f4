package lex

import (
	"strings"

	"almoner/api"
)

// What parts begin with.
const (
	escape       = `\`
	singleQuote  = `'`
	doubleQuote  = `"`
	arithmetic   = `$((`
	substitution = `$(`
	parameter    = `${`
	grave        = "`"
)

// Part returns the length of the part with which s begins, 0 if it begins with
// none, or -1 if the part does not end or its parts are nested too deeply.
func Part(s string, quoted bool) int {
	beginning := partOf(s, quoted)
	if beginning == "" {
		return 0
	}
	r := reader{script: s}
	if r.part(beginning, 0, quoted) != api.OK {
		return -1
	}
	return r.at
}

// partOf returns what the part with which s begins begins with, or nothing if it
// begins with none. What is quoted is read as within a `"`.
func partOf(s string, quoted bool) string {
	switch {
	case strings.HasPrefix(s, escape):
		return escape
	case strings.HasPrefix(s, singleQuote) && !quoted:
		return singleQuote
	case strings.HasPrefix(s, doubleQuote) && !quoted:
		return doubleQuote
	case strings.HasPrefix(s, arithmetic):
		return arithmetic
	case strings.HasPrefix(s, substitution):
		return substitution
	case strings.HasPrefix(s, parameter):
		return parameter
	case strings.HasPrefix(s, grave):
		return grave
	}
	return ""
}

// part goes on behind the part that begins here, which is nested within a number
// of others.
func (r *reader) part(beginning string, within int, quoted bool) api.Errno {
	if within > api.MaxDeep {
		return api.ErrForm
	}
	r.at += len(beginning)
	switch beginning {
	case escape:
		return r.oneMore()
	case singleQuote:
		return r.plain('\'')
	case doubleQuote:
		return r.nesting('"', within+1, true)
	case arithmetic:
		return r.arithmetic()
	case substitution:
		// A script of its own begins here, whatever is around it.
		return r.nesting(')', within+1, false)
	case parameter:
		return r.nesting('}', within+1, quoted)
	}
	return r.graveText()
}

// oneMore goes on behind the next byte.
func (r *reader) oneMore() api.Errno {
	if r.ended() {
		return api.ErrMore
	}
	r.at++
	return api.OK
}

// plain goes on behind the next byte that is an end.
func (r *reader) plain(end byte) api.Errno {
	for !r.ended() {
		r.at++
		if r.script[r.at-1] == end {
			return api.OK
		}
	}
	return api.ErrMore
}

// graveText goes on behind the next grave accent that no `\` precedes which is
// not itself behind one.
func (r *reader) graveText() api.Errno {
	for !r.ended() {
		b := r.script[r.at]
		r.at++
		if b == '`' {
			return api.OK
		}
		if b == '\\' && !r.ended() {
			r.at++
		}
	}
	return api.ErrMore
}

// arithmetic goes on behind the first `))` at which no `(` is open.
func (r *reader) arithmetic() api.Errno {
	for open := 0; !r.ended(); r.at++ {
		switch {
		case r.finds("("):
			open++
		case r.finds(")") && open > 0:
			open--
		case r.finds("))"):
			r.at += len("))")
			return api.OK
		}
	}
	return api.ErrMore
}

// nesting goes on behind the next byte that is an end and not within a part nor,
// where the end is a `)`, within parentheses.
func (r *reader) nesting(end byte, within int, quoted bool) api.Errno {
	open := 0
	for !r.ended() {
		if beginning := partOf(r.rest(), quoted); beginning != "" {
			if err := r.part(beginning, within, quoted); err != api.OK {
				return err
			}
			continue
		}
		b := r.script[r.at]
		r.at++
		switch {
		case b == end && open == 0:
			return api.OK
		case end == ')' && b == '(':
			open++
		case end == ')' && b == ')':
			open--
		}
	}
	return api.ErrMore
}
