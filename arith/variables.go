package arith

import (
	"slices"
	"strconv"
	"strings"

	"almoner/api"
)

// variables are those that an expression was given, and those that it assigned.
type variables struct {
	given []api.Var
	own   []variable // by their first assignments
}

type variable struct {
	name  string
	value int64
}

// get returns the value of a name.
func (v *variables) get(name string) (int64, api.Errno) {
	if at := v.placeOf(name); at >= 0 {
		return v.own[at].value, api.OK
	}
	for _, x := range v.given {
		if x.Name == name {
			return numberOf(x.Value)
		}
	}
	return 0, api.OK
}

func (v *variables) set(name string, value int64) {
	if at := v.placeOf(name); at >= 0 {
		v.own[at].value = value
		return
	}
	v.own = append(v.own, variable{name: name, value: value})
}

// placeOf returns where an assigned variable is, or -1.
func (v *variables) placeOf(name string) int {
	return slices.IndexFunc(v.own, func(x variable) bool { return x.name == name })
}

// texts returns the assigned variables with their values in decimal.
func (v *variables) texts() []api.Var {
	var l []api.Var
	for _, x := range v.own {
		l = append(l, api.Var{Name: x.name, Value: strconv.FormatInt(x.value, 10)})
	}
	return l
}

// numberOf returns the number that the value of a variable stands for.
func numberOf(text string) (int64, api.Errno) {
	if text == "" {
		return 0, api.OK
	}
	digits, negative := strings.CutPrefix(text, "-")
	value, size := constant(digits)
	if digits == "" || size < len(digits) {
		return 0, api.ErrUnset
	}
	if negative {
		return -value, api.OK
	}
	return value, api.OK
}
