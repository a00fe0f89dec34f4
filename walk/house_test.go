package walk_test

import (
	"fmt"
	"math"
	"strconv"
	"strings"
	"testing"

	"almoner/api"
	"almoner/inode"
)

// house is the tree of most tests, whose root is 0's with mode 755: of each inode the path, kind, mode, owner and group, and
// the data of a file or the number of a terminal. The inodes have the numbers from 2 on, in this order.
const house = `
/pub      d  777 0 0
/pub/f    - 4644 5 7 data
/pub/g    -  040 5 7 group
/pub/tty  c  622 5 7 2
/pub/d    d  755 5 7
/pub/d/x  -  777 5 7 x
/pub/e    d  777 8 9
/tmp      d 1777 0 0
/tmp/f    -  600 5 7 mine
/tmp/d    d  700 5 7
/tmp/o    -  666 8 9 other
/mine     d 1777 5 7
/mine/o   -  666 8 9 other
/mine/z   -  600 0 0 zero
/shut     d  700 5 7
/shut/f   - 4777 5 7 secret
/shut/d   d  777 5 7
/shut/d/x -  777 5 7 x
/look     d  555 5 7
/look/f   -  666 5 7 look
/look/d   d  777 5 7
/list     d  766 5 7
/list/f   -  666 5 7 list
/list/d   d  777 5 7
/none     d    0 5 7
/none/f   -    0 5 7 none
`

// who are credentials of which only the effective ids are these.
func who(uid, gid int) api.Cred {
	return api.Cred{Real: 90, Eff: uid, Saved: 91, Group: 92, EffGroup: gid}
}

// The callers of most tests: 0, the owner of most things, one of its group, and one who is neither.
func zero() api.Cred  { return who(0, 1) }
func owner() api.Cred { return who(5, 1) }
func group() api.Cred { return who(6, 7) }
func other() api.Cred { return who(8, 9) }

// lookalikes are callers whose real and saved user, and real group, are those of somebody else.
func lookalikes() []api.Cred {
	return []api.Cred{{Real: 0, Eff: 8, Saved: 0, Group: 7, EffGroup: 9}, {Real: 5, Eff: 8, Saved: 5, Group: 7, EffGroup: 9}}
}

// grow builds a tree.
func grow(t *testing.T, text string) *inode.Tree {
	t.Helper()
	r := inode.New(0o755, 0, 0)
	for line := range strings.Lines(text) {
		f := strings.Fields(line)
		if len(f) == 0 {
			continue
		}
		kind := strings.Index("-dc", f[1])
		mode, _ := strconv.ParseInt(f[2], 8, 0)
		last := ""
		if len(f) > 5 {
			last = f[5]
		}
		tty, _ := strconv.Atoi(last)
		ino, err := r.Make(kind, int(mode), number(f[3]), number(f[4]), tty)
		if err != api.OK {
			t.Fatalf("%s: %v", line, err)
		}
		cut := strings.LastIndexByte(f[0], '/')
		if err := r.Enter(at(r, f[0][:cut]), f[0][cut+1:], ino); err != api.OK {
			t.Fatalf("%s: %v", line, err)
		}
		if kind == api.KindFile {
			r.Put(ino, 0, last)
		}
		r.Drop(ino)
	}
	return r
}

func number(s string) int {
	n, _ := strconv.Atoi(s)
	return n
}

// at returns the inode of an absolute path, or 0, whatever its rights are.
func at(r *inode.Tree, path string) int {
	ino := 1
	for name := range strings.SplitSeq(path, "/") {
		if name != "" {
			ino, _ = r.Look(ino, name)
		}
	}
	return ino
}

// view is all that can be seen of a tree.
func view(r *inode.Tree) string {
	var b strings.Builder
	for ino := 1; ino <= api.MaxInodes; ino++ {
		info, ok := r.Stat(ino)
		if !ok {
			continue
		}
		up, _ := r.Look(ino, "..")
		fmt.Fprintf(&b, "%+v mode %o, data %q, up %d:", info, info.Mode, r.Data(ino), up)
		for _, name := range r.Names(ino) {
			to, _ := r.Look(ino, name)
			fmt.Fprintf(&b, " %s %d", name, to)
		}
		b.WriteString("\n")
	}
	return b.String()
}

// picture is all that can be seen of a tree, and its holds, which are dropped.
func picture(r *inode.Tree) string {
	was := view(r)
	var b strings.Builder
	for ino := 1; ino <= api.MaxInodes; ino++ {
		n := 0
		for r.Drop(ino) {
			n++
		}
		if n > 0 {
			fmt.Fprintf(&b, "%d: %d holds\n", ino, n)
		}
	}
	return was + b.String()
}

// expectChange makes a call in a house, and holds what becomes of it against what should become of another one.
func expectChange(t *testing.T, what string, call func(r *inode.Tree) api.Errno, want api.Errno, change func(r *inode.Tree)) {
	t.Helper()
	expectChangeOf(t, house, what, call, want, change)
}

func expectChangeOf(t *testing.T, text, what string, call func(r *inode.Tree) api.Errno, want api.Errno, change func(r *inode.Tree)) {
	t.Helper()
	is, should := grow(t, text), grow(t, text)
	if err := call(is); err != want {
		t.Errorf("%s: %v, not %v", what, err, want)
	}
	if (change != nil) != (want == api.OK) {
		t.Errorf("%s: the test doesn't say what changes", what)
	}
	if change != nil {
		change(should)
	}
	expectSame(t, what, picture(is), picture(should))
}

// expectSame tells the lines in which two views differ.
func expectSame(t *testing.T, what, is, should string) {
	t.Helper()
	if is != should {
		t.Errorf("%s: there is\n%sand should be\n%s", what, without(is, should), without(should, is))
	}
}

// without returns the lines of a view that another one hasn't got.
func without(s, other string) string {
	var b strings.Builder
	for line := range strings.Lines(s) {
		if !strings.Contains("\n"+other, "\n"+line) {
			b.WriteString(line)
		}
	}
	return b.String()
}

// nothing is what a call changes that is allowed, but has nothing to do.
func nothing(*inode.Tree) {}

func expect(t *testing.T, what string, got, want api.Errno) {
	t.Helper()
	if got != want {
		t.Errorf("%s: %v, not %v", what, got, want)
	}
}

// has reports whether the rights of an inode allow something, by the bits that count for a caller.
func has(info api.Info, c api.Cred, want int) bool {
	if c.Eff == 0 {
		return info.Kind == api.KindDir || want&api.Search == 0 || info.Mode&0o111 > 0
	}
	bits := info.Mode % 8
	if c.EffGroup == info.Group {
		bits = info.Mode / 8 % 8
	}
	if c.Eff == info.Owner {
		bits = info.Mode / 64 % 8
	}
	return bits&want == want
}

// modes are modes in which each class has all rights in turn, the others all or none, with and without the other bits.
func modes() []int {
	var list []int
	for rights := range 8 {
		for _, rest := range []int{0, 7} {
			for _, extra := range []int{0, 0o4000, 0o1000} {
				list = append(list, extra|rights<<6|rest<<3|rest, extra|rest<<6|rights<<3|rest, extra|rest<<6|rest<<3|rights)
			}
		}
	}
	return list
}

func callers() []api.Cred {
	return append([]api.Cred{zero(), owner(), who(5, 7), group(), other(), who(0, 7)}, lookalikes()...)
}

// wrongModes are numbers that are no modes.
func wrongModes() []int {
	return []int{-1, 0o2000, 0o2755, 0o10000, 0o7777, 0o100644, 1755, 1 << 32, math.MaxInt, math.MinInt}
}

// wrongInodes are numbers that no inode of the house has.
func wrongInodes() []int {
	return []int{0, -1, 28, 200, 201, 1000, 1<<32 + 1, math.MaxInt, math.MinInt}
}

// badPaths are the paths that Split refuses, with its errors.
func badPaths() map[string]api.Errno {
	return map[string]api.Errno{
		"":                                api.ErrNone,
		"fifteen bytes..":                 api.ErrLong,
		"/pub/fifteen bytes..":            api.ErrLong,
		"/none/fifteen bytes../x":         api.ErrLong,
		strings.Repeat("/", 129):          api.ErrLong,
		"/pub" + strings.Repeat("/.", 63): api.ErrLong,
		"/pub/\n":                         api.ErrArg,
		"\x7f":                            api.ErrArg,
		"/none/\x00/x":                    api.ErrArg,
		"/pub/f\x1f":                      api.ErrArg,
		"/fifteen bytes.\n":               api.ErrLong,
	}
}

// room is a house with a directory /room, everybody's, that has 40 entries: n00 to n07 of one file, n10 to n17 of another, and
// so on to n47. The files n are 5's with mode 666.
func room() string {
	return house + "/room d 777 5 7\n"
}

// fill gives /room its entries.
func fill(r *inode.Tree) {
	dir := at(r, "/room")
	for i := range 5 {
		ino, _ := r.Make(api.KindFile, 0o666, 5, 7, 0)
		for j := range 8 {
			r.Enter(dir, fmt.Sprintf("n%d%d", i, j), ino)
		}
		r.Drop(ino)
	}
}

// useUp makes inodes until there is no number left.
func useUp(r *inode.Tree) {
	for {
		if _, err := r.Make(api.KindFile, 0, 0, 0, 0); err != api.OK {
			return
		}
	}
}
