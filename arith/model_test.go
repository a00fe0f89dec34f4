package arith_test

import (
	"math/big"
	"math/rand/v2"
	"regexp"
	"slices"
	"strings"
	"testing"

	"almoner/api"
	"almoner/arith"
)

// tree is an expression in the model: an operator with what it stands between, or a constant or name. It is found from the operator that is worked out last, and worked out in whole numbers of any size.
type tree struct {
	sign string
	kids []*tree
}

const token = `0[xX][0-9a-fA-F]+|0[0-7]*|[1-9][0-9]*|[A-Za-z_][A-Za-z_0-9]*|<<=|>>=|[*/%+\-&^|]=|\|\||&&|[=!<>]=|<<|>>|[=?:|^&<>+\-*/%~!()]`

var (
	splits    = regexp.MustCompile(`[ \t\n]*(` + token + `)[ \t\n]*`)
	wholes    = regexp.MustCompile(`^([ \t\n]*(` + token + `)[ \t\n]*)+$`)
	blankOnly = regexp.MustCompile(`^[ \t\n]*$`)
	names     = regexp.MustCompile(`^[A-Za-z_]`)
	operands  = regexp.MustCompile(`^[A-Za-z_0-9)]`)
	assigning = regexp.MustCompile(`^([*/%+\-&^|]|<<|>>)?=$`)
	constants = regexp.MustCompile(`^-?(0[xX][0-9a-fA-F]+|0[0-7]*|[1-9][0-9]*)$`)
)

// modelTree returns nil where s is no expression.
func modelTree(s string) *tree {
	if len(s) > 256 || !wholes.MatchString(s) {
		return nil
	}
	var l []string
	for _, x := range splits.FindAllStringSubmatch(s, -1) {
		l = append(l, x[1])
	}
	return modelAssign(l, 0)
}

// modelAssign is told within how many assignments, choices and unaries it is, as the others are.
func modelAssign(l []string, within int) *tree {
	if within > 24 {
		return nil
	}
	if len(l) > 1 && names.MatchString(l[0]) && assigning.MatchString(l[1]) {
		return joined(l[1], &tree{sign: l[0]}, modelAssign(l[2:], within+1))
	}
	return modelChoice(l, within+1)
}

func modelChoice(l []string, within int) *tree {
	if within > 24 {
		return nil
	}
	ask, open := -1, 0
	for i, x := range l {
		if depthAt(l, i) != 0 {
			continue
		}
		if x == "?" && ask < 0 {
			ask = i
		}
		if x == "?" {
			open++
		}
		if x == ":" {
			open--
		}
		if x == ":" && ask >= 0 && open == 0 {
			return joined("?", modelLevel(l[:ask], 0, within+1), modelAssign(l[ask+1:i], within+1), modelChoice(l[i+1:], within+1))
		}
	}
	return modelLevel(l, 0, within+1)
}

// depthAt tells how many parentheses are open at a token.
func depthAt(l []string, at int) int {
	n := 0
	for _, x := range l[:at] {
		if x == "(" {
			n++
		}
		if x == ")" {
			n--
		}
	}
	return n
}

// modelLevel parts l at its last operator of a level that stands behind an operand.
func modelLevel(l []string, level, within int) *tree {
	if level == len(levels()) {
		return modelUnary(l, within)
	}
	for i := len(l) - 1; i > 0; i-- {
		if slices.Contains(levels()[level], l[i]) && operands.MatchString(l[i-1]) && depthAt(l, i) == 0 {
			return joined(l[i], modelLevel(l[:i], level, within), modelLevel(l[i+1:], level+1, within))
		}
	}
	return modelLevel(l, level+1, within)
}

func modelUnary(l []string, within int) *tree {
	switch {
	case within > 24 || len(l) == 0:
		return nil
	case len(l) == 1 && operands.MatchString(l[0]) && l[0] != ")":
		return &tree{sign: l[0]}
	case l[0] == "(" && l[len(l)-1] == ")" && depthAt(l, len(l)-1) == 1:
		return joined("(", modelAssign(l[1:len(l)-1], within+1))
	case strings.Contains("+-~!", l[0]) && len(l[0]) == 1:
		return joined(l[0], modelUnary(l[1:], within+1))
	}
	return nil
}

func joined(sign string, kids ...*tree) *tree {
	if slices.Contains(kids, nil) {
		return nil
	}
	return &tree{sign, kids}
}

// model works a tree out; it panics with the error that it meets.
type model struct {
	given []api.Var
	own   []api.Var
}

// wrapped takes n modulo 2^64.
func wrapped(n *big.Int) *big.Int {
	all := new(big.Int).Lsh(big.NewInt(1), 64)
	n = new(big.Int).Mod(n, all)
	if n.Bit(63) == 1 {
		n.Sub(n, all)
	}
	return n
}

func (m *model) read(name string) *big.Int {
	for _, x := range append(slices.Clone(m.own), m.given...) {
		if x.Name != name {
			continue
		}
		if x.Value == "" {
			break
		}
		if !constants.MatchString(x.Value) {
			panic(api.ErrUnset)
		}
		n, _ := new(big.Int).SetString(x.Value, 0) // it reads 017 as 0o17
		return wrapped(n)
	}
	return new(big.Int)
}

func (m *model) write(name string, n *big.Int) {
	for i := range m.own {
		if m.own[i].Name == name {
			m.own[i].Value = n.String()
			return
		}
	}
	m.own = append(m.own, api.Var{Name: name, Value: n.String()})
}

func (m *model) value(x *tree) *big.Int {
	switch {
	case len(x.kids) == 0 && names.MatchString(x.sign):
		return m.read(x.sign)
	case len(x.kids) == 0:
		n, _ := new(big.Int).SetString(x.sign, 0)
		return wrapped(n)
	case assigning.MatchString(x.sign):
		n := m.value(x.kids[1])
		if x.sign != "=" {
			n = wrapped(modelBoth(x.sign[:len(x.sign)-1], m.read(x.kids[0].sign), n))
		}
		m.write(x.kids[0].sign, n)
		return n
	}
	first := m.value(x.kids[0])
	switch {
	case x.sign == "?" && first.Sign() == 0:
		return m.value(x.kids[2])
	case x.sign == "?":
		return m.value(x.kids[1])
	case len(x.kids) == 1:
		return wrapped(modelOne(x.sign, first))
	case x.sign == "&&" && first.Sign() == 0, x.sign == "||" && first.Sign() != 0:
		return big.NewInt(int64(first.Sign() * first.Sign()))
	}
	return wrapped(modelBoth(x.sign, first, m.value(x.kids[1])))
}

func modelOne(sign string, n *big.Int) *big.Int {
	switch sign {
	case "-":
		return new(big.Int).Neg(n)
	case "~":
		return new(big.Int).Not(n)
	case "!":
		return big.NewInt(one(n.Sign() == 0))
	}
	return n
}

func modelBoth(sign string, a, b *big.Int) *big.Int {
	n := new(big.Int)
	shift := uint(n.Mod(b, big.NewInt(64)).Uint64())
	order := a.Cmp(b)
	if strings.Contains("/%", sign) && b.Sign() == 0 {
		panic(api.ErrZero)
	}
	switch sign {
	case "||", "&&":
		return big.NewInt(one(b.Sign() != 0))
	case "|":
		return n.Or(a, b)
	case "^":
		return n.Xor(a, b)
	case "&":
		return n.And(a, b)
	case "<<":
		return n.Lsh(a, shift)
	case ">>":
		return n.Rsh(a, shift)
	case "+":
		return n.Add(a, b)
	case "-":
		return n.Sub(a, b)
	case "*":
		return n.Mul(a, b)
	case "/":
		return n.Quo(a, b)
	case "%":
		return n.Rem(a, b)
	}
	return big.NewInt(one(map[string]bool{"==": order == 0, "!=": order != 0, "<": order < 0, "<=": order <= 0, ">": order > 0, ">=": order >= 0}[sign]))
}

// modelValue is Value, by the model.
func modelValue(s string, l []api.Var) (value int64, assigned []api.Var, err api.Errno) {
	if len(s) <= 256 && blankOnly.MatchString(s) {
		return 0, nil, api.OK
	}
	x := modelTree(s)
	if x == nil {
		return 0, nil, api.ErrForm
	}
	defer func() {
		if e := recover(); e != nil {
			value, assigned, err = 0, nil, e.(api.Errno)
		}
	}()
	m := model{given: l}
	return m.value(x).Int64(), m.own, api.OK
}

// modelVars are read by the texts of the tests below.
func modelVars() []api.Var {
	return vars("b", "-0x2", "c", "08", "a", "5", "_x", "9223372036854775807", "e", "", "a", "6", "b", "no")
}

// wantModel reports whether s is an expression.
func wantModel(t *testing.T, s string) bool {
	t.Helper()
	v, a, e := modelValue(s, modelVars())
	want(t, s, modelVars(), v, a, e)
	return e != api.ErrForm
}

// texts returns all texts of some bytes.
func texts(longest int, bytes string) []string {
	l, last := []string{""}, []string{""}
	for range longest {
		var longer []string
		for _, s := range last {
			for i := range len(bytes) {
				longer = append(longer, s+bytes[i:i+1])
			}
		}
		l, last = append(l, longer...), longer
	}
	return l
}

// TestShortTexts holds all short texts of some bytes against the model.
func TestShortTexts(t *testing.T) {
	right := 0
	for _, x := range []struct {
		longest int
		bytes   string
	}{
		{3, "abcx_e019fFX=*/%+-<>&^|?:~!() \t\n,\x00"}, {5, "a1=+?:()"}, {5, "a0<>=-!"}, {5, "a1&|= (c"}, {6, "1?:=a"}, {6, "c0/&("}, {6, "a-~)("}, {7, "a=<>"},
	} {
		for _, s := range texts(x.longest, x.bytes) {
			if wantModel(t, s) {
				right++
			}
		}
	}
	if right < 8000 {
		t.Errorf("only %d expressions", right)
	}
}

// writer makes random texts.
type writer struct {
	*rand.Rand
}

func (w writer) one(l ...string) string { return l[w.IntN(len(l))] }

// expression writes an expression of the grammar, that may be nested too deeply or too long.
func (w writer) expression(size int) string {
	if size <= 0 {
		return w.one("0", "1", "2", "3", "7", "017", "0xF", "63", "64", "9223372036854775807", "a", "b", "a", "b", "_x", "e", "new", w.one("c", "0"))
	}
	all := slices.Concat(levels()...)
	left, right := w.IntN(size), w.IntN(size)
	switch w.IntN(9) {
	case 0:
		return w.one("+", "-", "~", "!") + w.expression(size-1)
	case 1, 2:
		return "(" + w.expression(size-1) + ")"
	case 3:
		return "(" + w.expression(left) + "?" + w.expression(right) + ":" + w.expression(size-1) + ")"
	case 4:
		return w.expression(left) + w.one("?", " ? ") + w.expression(right) + w.one(":", " : ") + w.expression(w.IntN(size))
	case 5:
		return "(" + w.one("a", "b", "_x", "new", "e", "c") + w.one(assigns()...) + w.expression(size-1) + ")"
	}
	return w.expression(left) + w.one(all...) + w.one("", " ") + w.expression(right)
}

// spoilt changes a byte or some of s.
func (w writer) spoilt(s string) string {
	at := w.IntN(len(s) + 1)
	to := min(len(s), at+w.IntN(3))
	return s[:at] + w.one("", "", "1", "a", "(", ")", "=", "?", ":", "+", "!", "<", ">", "&", "|", " ", "$") + s[to:]
}

// TestRandomTexts holds random texts from fixed seeds against the model.
func TestRandomTexts(t *testing.T) {
	right, wrong := 0, 0
	for seed := range uint64(60000) {
		w := writer{rand.New(rand.NewPCG(13, seed))}
		s := w.expression(w.IntN(9))
		if seed%3 == 0 {
			s = w.spoilt(s)
		}
		if wantModel(t, s) {
			right++
		} else {
			wrong++
		}
	}
	if right < 20000 || wrong < 5000 {
		t.Errorf("%d expressions and %d other texts", right, wrong)
	}
}

// TestRandomSigns lays tokens side by side as they come.
func TestRandomSigns(t *testing.T) {
	signs := append(slices.Concat(levels()...), append(assigns(), "?", ":", "~", "!", "(", ")", "a", "b", "1", "07", " ")...)
	for seed := range uint64(100000) {
		w := writer{rand.New(rand.NewPCG(31, seed))}
		s := ""
		for range 1 + w.IntN(7) {
			s += w.one(signs...)
		}
		wantModel(t, s)
	}
}

// TestRandomDepths nests what nests in random order, about as deep as it may.
func TestRandomDepths(t *testing.T) {
	right, wrong := 0, 0
	for seed := range uint64(20000) {
		w := writer{rand.New(rand.NewPCG(24, seed))}
		left, behind := "", ""
		for deep := w.IntN(4); deep < 22; deep++ {
			x := w.IntN(6)
			left += []string{"-", "(", "a=", "0?1:", "1?", "2-("}[x]
			behind = []string{"", ")", "", "", ":3", ")"}[x] + behind
			deep += []int{0, 2, 0, 0, 1, 2}[x]
		}
		if wantModel(t, left+"1"+behind) {
			right++
		} else {
			wrong++
		}
	}
	if right < 1000 || wrong < 1000 {
		t.Errorf("%d expressions and %d other texts", right, wrong)
	}
}

// TestMadeUp calls Value with random bytes, which must not panic and always answer the same.
func TestMadeUp(t *testing.T) {
	for seed := range uint64(20000) {
		w := writer{rand.New(rand.NewPCG(7, seed))}
		b := make([]byte, w.IntN(40))
		for i := range b {
			b[i] = byte(w.IntN(256))
		}
		l := []api.Var{{Name: "a", Value: string(b)}, {Name: string(b), Value: "1"}}
		v, assigned, err := arith.Value(string(b), l)
		want(t, string(b), l, v, assigned, err)
		wantModel(t, string(b))
		v, assigned, err = modelValue("a", l)
		want(t, "a", l, v, assigned, err)
	}
}
