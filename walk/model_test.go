package walk_test

import (
	"fmt"
	"math/rand/v2"
	"strings"
	"testing"

	"almoner/api"
	"almoner/inode"
	"almoner/walk"
)

// model does to a tree of its own what the chapter says, each call as the list of its errors, in their order.
type model struct{ *inode.Tree }

// rule is an error, and whether it applies, which is asked only if none ahead of it does.
type rule struct {
	err     api.Errno
	applies func() bool
}

func first(rules ...rule) api.Errno {
	for _, r := range rules {
		if r.applies() {
			return r.err
		}
	}
	return api.OK
}

func (m model) kind(ino int) int {
	info, _ := m.Stat(ino)
	return info.Kind
}

func (m model) is(ino int) bool {
	_, ok := m.Stat(ino)
	return ok
}

func (m model) isDir(ino int) bool { return m.is(ino) && m.kind(ino) == api.KindDir }

func (m model) may(c api.Cred, ino, want int) bool {
	info, _ := m.Stat(ino)
	return has(info, c, want)
}

func (m model) owns(c api.Cred, ino int) bool {
	info, _ := m.Stat(ino)
	return info.Owner == c.Eff
}

func (m model) in(dir int, name string) int {
	ino, _ := m.Look(dir, name)
	return ino
}

func (m model) sticks(c api.Cred, dir, ino int) bool {
	info, _ := m.Stat(dir)
	return info.Mode&0o1000 != 0 && c.Eff != 0 && !m.owns(c, dir) && !m.owns(c, ino)
}

// cut takes a path apart: from where it starts, its names, and whether it requires a directory.
func cut(cwd int, s string) (int, []string, bool) {
	parts := strings.Split(s, "/")
	if parts[0] == "" {
		cwd = 1
	}
	var names []string
	last := ""
	for _, last = range parts {
		if last != "" && last != "." {
			names = append(names, last)
		}
	}
	return cwd, names, last == "" || last == "." || last == ".."
}

func (m model) follow(ino int, c api.Cred, names []string) (int, api.Errno) {
	if !m.is(ino) {
		return 0, api.ErrNone
	}
	if len(names) == 0 {
		return ino, api.OK
	}
	err := first(
		rule{api.ErrDir, func() bool { return !m.isDir(ino) }},
		rule{api.ErrMay, func() bool { return !m.may(c, ino, api.Search) }},
		rule{api.ErrNone, func() bool { return m.in(ino, names[0]) == 0 }},
	)
	if err != api.OK {
		return 0, err
	}
	return m.follow(m.in(ino, names[0]), c, names[1:])
}

func (m model) Find(cwd int, c api.Cred, s string) (int, api.Errno) {
	if s == "" {
		return 0, api.ErrNone
	}
	start, names, dir := cut(cwd, s)
	ino, err := m.follow(start, c, names)
	if err == api.OK && dir && !m.isDir(ino) {
		err = api.ErrDir
	}
	if err != api.OK {
		return 0, err
	}
	return ino, api.OK
}

func (m model) Parent(cwd int, c api.Cred, s string) (int, string, bool, api.Errno) {
	if s == "" {
		return 0, "", false, api.ErrNone
	}
	start, names, dir := cut(cwd, s)
	if len(names) == 0 || names[len(names)-1] == ".." {
		return 0, "", false, api.ErrArg
	}
	name := names[len(names)-1]
	ino, err := m.follow(start, c, names[:len(names)-1])
	if err == api.OK {
		err = first(
			rule{api.ErrDir, func() bool { return !m.isDir(ino) }},
			rule{api.ErrMay, func() bool { return !m.may(c, ino, api.Search) }},
		)
	}
	if err != api.OK {
		return 0, "", false, err
	}
	return ino, name, dir, api.OK
}

// add makes an inode and enters it; an inode that there is no room for goes again.
func (m model) add(c api.Cred, kind, mode, dir int, name string) (int, api.Errno) {
	ino, err := m.Make(kind, mode, c.Eff, c.EffGroup, 0)
	if err != api.OK {
		return 0, err
	}
	if err = m.Enter(dir, name, ino); err != api.OK {
		m.Drop(ino)
		ino = 0
	}
	return ino, err
}

func (m model) Open(cwd int, c api.Cred, s string, how api.How) (int, api.Errno) {
	if how.Want != 2 && how.Want != 4 && how.Want != 6 || how.Mode&^0o5777 != 0 {
		return 0, api.ErrArg
	}
	var ino int
	var err api.Errno
	if how.Make {
		dir, name, must, e := m.Parent(cwd, c, s)
		if e != api.OK {
			return 0, e
		}
		if ino = m.in(dir, name); ino == 0 {
			if err = first(
				rule{api.ErrFile, func() bool { return must }},
				rule{api.ErrMay, func() bool { return !m.may(c, dir, api.Write) }},
			); err != api.OK {
				return 0, err
			}
			return m.add(c, api.KindFile, how.Mode, dir, name)
		}
		err = first(
			rule{api.ErrIs, func() bool { return how.Alone }},
			rule{api.ErrDir, func() bool { return must && !m.isDir(ino) }},
		)
	} else {
		ino, err = m.Find(cwd, c, s)
	}
	if err == api.OK {
		err = first(
			rule{api.ErrFile, func() bool { return how.Want != api.Read && m.isDir(ino) }},
			rule{api.ErrMay, func() bool { return !m.may(c, ino, how.Want) }},
		)
	}
	if err != api.OK {
		return 0, err
	}
	m.Hold(ino)
	if how.Empty && how.Want != api.Read && m.kind(ino) == api.KindFile {
		m.Cut(ino)
		m.lendNot(ino)
	}
	return ino, api.OK
}

func (m model) lendNot(ino int) {
	info, _ := m.Stat(ino)
	m.Set(ino, info.Mode&0o1777, info.Owner, info.Group)
}

func (m model) Mkdir(cwd int, c api.Cred, s string, mode int) api.Errno {
	if mode&^0o5777 != 0 {
		return api.ErrArg
	}
	dir, name, _, err := m.Parent(cwd, c, s)
	if err == api.OK {
		err = first(
			rule{api.ErrIs, func() bool { return m.in(dir, name) != 0 }},
			rule{api.ErrMay, func() bool { return !m.may(c, dir, api.Write) }},
		)
	}
	if err != api.OK {
		return err
	}
	ino, err := m.add(c, api.KindDir, mode, dir, name)
	m.Drop(ino)
	return err
}

func (m model) Remove(cwd int, c api.Cred, s string, dir bool) api.Errno {
	from, name, must, err := m.Parent(cwd, c, s)
	if err != api.OK {
		return err
	}
	ino := m.in(from, name)
	if err := first(
		rule{api.ErrNone, func() bool { return ino == 0 }},
		rule{api.ErrDir, func() bool { return (dir || must) && !m.isDir(ino) }},
		rule{api.ErrFile, func() bool { return !dir && m.isDir(ino) }},
		rule{api.ErrMay, func() bool { return !m.may(c, from, api.Write) }},
		rule{api.ErrPerm, func() bool { return m.sticks(c, from, ino) }},
	); err != api.OK {
		return err
	}
	return m.Tree.Remove(from, name)
}

func (m model) Link(cwd int, c api.Cred, s, as string) api.Errno {
	ino, err := m.Find(cwd, c, s)
	if err == api.OK && m.isDir(ino) {
		err = api.ErrFile
	}
	if err != api.OK {
		return err
	}
	to, name, must, err := m.Parent(cwd, c, as)
	if err == api.OK {
		err = first(
			rule{api.ErrIs, func() bool { return m.in(to, name) != 0 }},
			rule{api.ErrDir, func() bool { return must }},
			rule{api.ErrMay, func() bool { return !m.may(c, to, api.Write) }},
		)
	}
	if err != api.OK {
		return err
	}
	return m.Enter(to, name, ino)
}

func (m model) Rename(cwd int, c api.Cred, s, as string) api.Errno {
	from, name, must, err := m.Parent(cwd, c, s)
	if err == api.OK && m.in(from, name) == 0 {
		err = api.ErrNone
	}
	if err != api.OK {
		return err
	}
	to, new, mustToo, err := m.Parent(cwd, c, as)
	if err != api.OK {
		return err
	}
	ino, old := m.in(from, name), m.in(to, new)
	if err := first(
		rule{api.ErrDir, func() bool { return (must || mustToo) && !m.isDir(ino) }},
		rule{api.ErrMay, func() bool { return !m.may(c, from, api.Write) }},
		rule{api.ErrMay, func() bool { return !m.may(c, to, api.Write) }},
		rule{api.ErrPerm, func() bool { return m.sticks(c, from, ino) }},
		rule{api.ErrPerm, func() bool { return old != 0 && m.sticks(c, to, old) }},
	); err != api.OK {
		return err
	}
	return m.Move(from, name, to, new)
}

func (m model) Chmod(cwd int, c api.Cred, s string, mode int) api.Errno {
	ino, err := m.Find(cwd, c, s)
	if err == api.OK && c.Eff != 0 && !m.owns(c, ino) {
		err = api.ErrPerm
	}
	if err != api.OK {
		return err
	}
	info, _ := m.Stat(ino)
	return m.Set(ino, mode, info.Owner, info.Group)
}

func (m model) Chown(cwd int, c api.Cred, s string, owner, group int) api.Errno {
	ino, err := m.Find(cwd, c, s)
	if err != api.OK {
		return err
	}
	info, _ := m.Stat(ino)
	if c.Eff != 0 && (c.Eff != info.Owner || owner != info.Owner || group != c.EffGroup && group != info.Group) {
		return api.ErrPerm
	}
	return m.Set(ino, info.Mode&0o1777, owner, group)
}

func (m model) Put(ino, at int, s string) api.Errno {
	err := m.Tree.Put(ino, at, s)
	if err == api.OK {
		m.lendNot(ino)
	}
	return err
}

// stroller takes random steps.
type stroller struct {
	*rand.Rand
	users, groups, modes []int
	upTo                 int // the greatest number of an inode that is thought of
}

func pick[T any](w *stroller, list []T) T { return list[w.IntN(len(list))] }

func (w *stroller) path() string {
	parts := []string{"a", "b", "c", "a", "b", "c", "d", "..", ".", ""}
	s := pick(w, []string{"", "/", "/", "//"})
	for range w.IntN(4) {
		s += pick(w, parts) + "/"
	}
	return s + pick(w, parts)
}

func (w *stroller) who() api.Cred {
	id := func() int { return pick(w, []int{0, 5, 6, 7, 8}) }
	return api.Cred{Real: id(), Eff: pick(w, w.users), Saved: id(), Group: id(), EffGroup: pick(w, w.groups)}
}

func (w *stroller) mode() int {
	if w.IntN(30) == 0 {
		return pick(w, []int{-1, 0o2755, 0o10000})
	}
	return pick(w, w.modes)
}

// id is a user or a group.
func (w *stroller) id() int {
	if w.IntN(30) == 0 {
		return pick(w, []int{-1, 65536})
	}
	return pick(w, []int{0, 5, 6, 7, 8})
}

// step is a call, to be made of the package and of the model.
type step struct {
	call  string
	cwd   int
	who   api.Cred
	s, as string
	how   api.How
	a, b  int
	dir   bool
}

func (w *stroller) step() step {
	calls := []string{"Find", "Parent", "Open", "Open", "Open", "Mkdir", "Mkdir", "Remove", "Link", "Rename", "Rename", "Chmod", "Chmod", "Chown", "Put", "Drop"}
	s := step{call: pick(w, calls), cwd: 1 + w.IntN(w.upTo), who: w.who(), s: w.path(), as: w.path(), dir: w.IntN(2) == 0}
	if w.IntN(3) > 0 {
		s.cwd = 1
	}
	switch s.call {
	case "Open":
		s.how = api.How{Want: pick(w, []int{2, 4, 6, 2, 4, 6, 0, 1, 3}), Mode: w.mode()}
		s.how.Make, s.how.Alone, s.how.Empty = w.IntN(3) > 0, w.IntN(4) == 0, w.IntN(2) == 0
	case "Mkdir", "Chmod":
		s.a = w.mode()
	case "Chown":
		s.a, s.b = w.id(), w.id()
	case "Put", "Drop":
		s.cwd, s.a, s.s = 1+w.IntN(w.upTo), w.IntN(4)-1, pick(w, []string{"", "x", "xyz", string(make([]byte, 4095))})
	}
	return s
}

func (s step) String() string {
	return fmt.Sprintf("%s in %d by %d, %d: %.20q, %.20q %+v %o %o %v", s.call, s.cwd, s.who.Eff, s.who.EffGroup, s.s, s.as, s.how, s.a, s.b, s.dir)
}

// answer is what a call answers; what it doesn't answer is zero.
type answer struct {
	ino  int
	name string
	err  api.Errno
	ok   bool
}

func (s step) ofWalk(r *inode.Tree) (a answer) {
	switch s.call {
	case "Find":
		a.ino, a.err = walk.Find(r, s.cwd, s.who, s.s)
	case "Parent":
		a.ino, a.name, a.err = walk.Parent(r, s.cwd, s.who, s.s)
	case "Open":
		a.ino, a.err = walk.Open(r, s.cwd, s.who, s.s, s.how)
	case "Mkdir":
		a.err = walk.Mkdir(r, s.cwd, s.who, s.s, s.a)
	case "Remove":
		a.err = walk.Remove(r, s.cwd, s.who, s.s, s.dir)
	case "Link":
		a.err = walk.Link(r, s.cwd, s.who, s.s, s.as)
	case "Rename":
		a.err = walk.Rename(r, s.cwd, s.who, s.s, s.as)
	case "Chmod":
		a.err = walk.Chmod(r, s.cwd, s.who, s.s, s.a)
	case "Chown":
		a.err = walk.Chown(r, s.cwd, s.who, s.s, s.a, s.b)
	case "Put":
		a.err = walk.Put(r, s.cwd, s.a, s.s)
	case "Drop":
		a.ok = r.Drop(s.cwd)
	}
	return a
}

func (s step) ofModel(m model) (a answer) {
	switch s.call {
	case "Find":
		a.ino, a.err = m.Find(s.cwd, s.who, s.s)
	case "Parent":
		a.ino, a.name, _, a.err = m.Parent(s.cwd, s.who, s.s)
	case "Open":
		a.ino, a.err = m.Open(s.cwd, s.who, s.s, s.how)
	case "Mkdir":
		a.err = m.Mkdir(s.cwd, s.who, s.s, s.a)
	case "Remove":
		a.err = m.Remove(s.cwd, s.who, s.s, s.dir)
	case "Link":
		a.err = m.Link(s.cwd, s.who, s.s, s.as)
	case "Rename":
		a.err = m.Rename(s.cwd, s.who, s.s, s.as)
	case "Chmod":
		a.err = m.Chmod(s.cwd, s.who, s.s, s.a)
	case "Chown":
		a.err = m.Chown(s.cwd, s.who, s.s, s.a, s.b)
	case "Put":
		a.err = m.Put(s.cwd, s.a, s.s)
	case "Drop":
		a.ok = m.Drop(s.cwd)
	}
	return a
}

// TestModel takes random steps, from fixed seeds, and holds what they answer and make against the model, and against what is
// permitted.
func TestModel(t *testing.T) {
	loose, strict := []int{0o777, 0o755, 0o1777, 0o4777, 0o1755, 0o5775}, []int{0o777, 0o755, 0o700, 0o711, 0o1777, 0o1733, 0o4766, 0o755, 0o70, 0o7, 0, 0o644, 0o666}
	did := map[string]map[api.Errno]int{}
	for _, c := range []struct {
		what          string
		users, groups []int
		modes         []int
		runs, steps   int
	}{
		{"0 alone", []int{0}, []int{0, 7}, loose, 40, 200},
		{"one user", []int{5}, []int{5, 7}, strict, 60, 200},
		{"all of them", []int{0, 5, 6, 6, 8}, []int{5, 7, 9}, loose, 150, 250},
		{"strict", []int{0, 5, 5, 6, 6, 8}, []int{5, 7}, strict, 150, 250},
	} {
		for run := range c.runs {
			w := &stroller{rand.New(rand.NewPCG(uint64(run), uint64(len(c.users)))), c.users, c.groups, c.modes, 14}
			r, m := inode.New(0o1777, 0, 0), model{inode.New(0o1777, 0, 0)}
			for _, name := range []string{"c", "d"} { // terminals
				for _, tree := range []*inode.Tree{r, m.Tree} {
					ino, _ := tree.Make(api.KindTty, 0o4666, 5, 7, 1)
					tree.Enter(1, name, ino)
					tree.Drop(ino)
				}
			}
			var steps []string
			for range c.steps {
				s, was := w.step(), look(r)
				got, want := s.ofWalk(r), s.ofModel(m)
				steps = append(steps, s.String())
				if got != want {
					t.Errorf("%v: %+v, not %+v", s, got, want)
				}
				expectSame(t, s.String(), view(r), view(m.Tree))
				expectPermitted(t, s, was, look(r), got)
				if t.Failed() {
					t.Fatalf("%s, run %d: %s", c.what, run, strings.Join(steps, "\n"))
				}
				if did[s.call] == nil {
					did[s.call] = map[api.Errno]int{}
				}
				did[s.call][got.err]++
			}
			expectSame(t, c.what, picture(r), picture(m.Tree))
		}
	}
	expectAnswers(t, did)
}

// expectAnswers looks whether each call has answered all that it may, but for what needs long paths, or many entries or inodes.
func expectAnswers(t *testing.T, did map[string]map[api.Errno]int) {
	t.Helper()
	for call, answers := range map[string][]api.Errno{
		"Find":   {api.OK, api.ErrNone, api.ErrMay, api.ErrDir},
		"Parent": {api.OK, api.ErrNone, api.ErrMay, api.ErrDir, api.ErrArg},
		"Open":   {api.OK, api.ErrNone, api.ErrMay, api.ErrDir, api.ErrArg, api.ErrFile, api.ErrIs},
		"Mkdir":  {api.OK, api.ErrNone, api.ErrMay, api.ErrDir, api.ErrArg, api.ErrIs},
		"Remove": {api.OK, api.ErrNone, api.ErrMay, api.ErrDir, api.ErrArg, api.ErrFile, api.ErrPerm, api.ErrBusy},
		"Link":   {api.OK, api.ErrNone, api.ErrMay, api.ErrDir, api.ErrArg, api.ErrFile, api.ErrIs},
		"Rename": {api.OK, api.ErrNone, api.ErrMay, api.ErrDir, api.ErrArg, api.ErrFile, api.ErrPerm, api.ErrBusy},
		"Chmod":  {api.OK, api.ErrNone, api.ErrMay, api.ErrDir, api.ErrArg, api.ErrPerm},
		"Chown":  {api.OK, api.ErrNone, api.ErrMay, api.ErrDir, api.ErrArg, api.ErrPerm},
		"Put":    {api.OK, api.ErrNone, api.ErrArg, api.ErrFile, api.ErrFull},
	} {
		for _, answer := range answers {
			if did[call][answer] == 0 {
				t.Errorf("%s never answered %v", call, answer)
			}
		}
	}
}
