package inode

import (
	"fmt"
	"math/rand/v2"
	"reflect"
	"slices"
	"testing"

	"almoner/api"
	"almoner/path"
)

// model is a tree that is written down as plainly as it goes: one list of all entries, from which links, parents and what is
// to be deleted are worked out whenever they are asked for.
type model struct {
	things  map[int]*thing
	entries []entry
}

type thing struct {
	kind, mode, owner, group, tty, holds int
	data                                 string
}

type entry struct {
	dir  int
	name string
	ino  int
}

func newModel(mode, owner, group int) *model {
	return &model{things: map[int]*thing{1: {kind: api.KindDir, mode: mode, owner: owner, group: group}}}
}

func (m *model) isDir(ino int) bool {
	return m.things[ino] != nil && m.things[ino].kind == api.KindDir
}

func (m *model) of(dir int) []entry {
	var list []entry
	for _, e := range m.entries {
		if e.dir == dir {
			list = append(list, e)
		}
	}
	return list
}

func (m *model) links(ino int) int {
	n := 0
	for _, e := range m.entries {
		if e.ino == ino {
			n++
		}
	}
	return n
}

func (m *model) parent(dir int) int {
	for _, e := range m.entries {
		if e.ino == dir {
			return e.dir
		}
	}
	return dir
}

// within reports whether a directory is another or contains it, from the top down.
func (m *model) within(ino, dir int) bool {
	if ino == dir {
		return true
	}
	for _, e := range m.of(ino) {
		if m.within(e.ino, dir) {
			return true
		}
	}
	return false
}

func (m *model) find(dir int, name string) int {
	for i, e := range m.entries {
		if e.dir == dir && e.name == name {
			return i
		}
	}
	return -1
}

// sweep deletes what nothing keeps until everything is kept.
func (m *model) sweep() {
	for again := true; again; {
		again = false
		for ino, x := range m.things {
			if ino != 1 && x.holds == 0 && m.links(ino) == 0 {
				delete(m.things, ino)
				m.entries = slices.DeleteFunc(m.entries, func(e entry) bool { return e.dir == ino })
				again = true
			}
		}
	}
}

func wrongOwn(mode, owner, group int) bool {
	return mode&^0o5777 != 0 || owner < 0 || owner > 65535 || group < 0 || group > 65535
}

func (m *model) Make(kind, mode, owner, group, tty int) (int, api.Errno) {
	if kind < 0 || kind > 2 || wrongOwn(mode, owner, group) || kind == 2 && (tty < 0 || tty > 3) {
		return 0, api.ErrArg
	}
	if kind != 2 {
		tty = 0
	}
	for ino := 1; ino <= 200; ino++ {
		if m.things[ino] == nil {
			m.things[ino] = &thing{kind: kind, mode: mode, owner: owner, group: group, tty: tty, holds: 1}
			return ino, api.OK
		}
	}
	return 0, api.ErrFull
}

func (m *model) Stat(ino int) (api.Info, bool) {
	x := m.things[ino]
	if x == nil {
		return api.Info{}, false
	}
	size := len(x.data)
	if x.kind == api.KindDir {
		size = len(m.of(ino))
	}
	return api.Info{Ino: ino, Kind: x.kind, Mode: x.mode, Owner: x.owner, Group: x.group, Links: m.links(ino), Size: size, Tty: x.tty}, true
}

func (m *model) Data(ino int) string {
	if m.things[ino] == nil {
		return ""
	}
	return m.things[ino].data
}

func (m *model) Names(dir int) []string {
	var names []string
	for _, e := range m.of(dir) {
		names = append(names, e.name)
	}
	slices.Sort(names)
	return names
}

func (m *model) Look(dir int, name string) (int, bool) {
	if !m.isDir(dir) {
		return 0, false
	}
	if name == "." {
		return dir, true
	}
	if name == ".." {
		return m.parent(dir), true
	}
	if i := m.find(dir, name); i >= 0 {
		return m.entries[i].ino, true
	}
	return 0, false
}

func (m *model) Hold(ino int) bool {
	if m.things[ino] == nil {
		return false
	}
	m.things[ino].holds++
	return true
}

func (m *model) Drop(ino int) bool {
	if m.things[ino] == nil || m.things[ino].holds == 0 {
		return false
	}
	m.things[ino].holds--
	m.sweep()
	return true
}

func (m *model) Set(ino, mode, owner, group int) api.Errno {
	if m.things[ino] == nil {
		return api.ErrNone
	}
	if wrongOwn(mode, owner, group) {
		return api.ErrArg
	}
	x := m.things[ino]
	x.mode, x.owner, x.group = mode, owner, group
	return api.OK
}

func (m *model) Put(ino, at int, s string) api.Errno {
	x := m.things[ino]
	if x == nil {
		return api.ErrNone
	}
	if x.kind == api.KindDir {
		return api.ErrFile
	}
	if x.kind == api.KindTty || at < 0 || at > len(x.data) {
		return api.ErrArg
	}
	bytes := []byte(x.data)
	for i := range len(s) {
		if at+i < len(bytes) {
			bytes[at+i] = s[i]
		} else {
			bytes = append(bytes, s[i])
		}
	}
	if len(bytes) > 4096 {
		return api.ErrFull
	}
	x.data = string(bytes)
	return api.OK
}

func (m *model) Cut(ino int) api.Errno {
	if m.things[ino] == nil {
		return api.ErrNone
	}
	if m.isDir(ino) {
		return api.ErrFile
	}
	if m.things[ino].kind == api.KindTty {
		return api.ErrArg
	}
	m.things[ino].data = ""
	return api.OK
}

func (m *model) Enter(dir int, name string, ino int) api.Errno {
	if m.things[dir] == nil || m.things[ino] == nil {
		return api.ErrNone
	}
	if !m.isDir(dir) {
		return api.ErrDir
	}
	if !path.Name(name) {
		return api.ErrArg
	}
	if m.find(dir, name) >= 0 {
		return api.ErrIs
	}
	if ino == 1 || m.isDir(ino) && m.links(ino) != 0 || m.links(ino) == 8 {
		return api.ErrMany
	}
	if len(m.of(dir)) == 40 {
		return api.ErrFull
	}
	if m.within(ino, dir) {
		return api.ErrBusy
	}
	m.entries = append(m.entries, entry{dir, name, ino})
	return api.OK
}

func (m *model) Remove(dir int, name string) api.Errno {
	if m.things[dir] == nil {
		return api.ErrNone
	}
	if !m.isDir(dir) {
		return api.ErrDir
	}
	i := m.find(dir, name)
	if i < 0 {
		return api.ErrNone
	}
	if len(m.of(m.entries[i].ino)) > 0 {
		return api.ErrBusy
	}
	m.entries = slices.Delete(m.entries, i, i+1)
	m.sweep()
	return api.OK
}

func (m *model) Move(dir int, name string, to int, as string) api.Errno {
	if m.things[dir] == nil || m.things[to] == nil {
		return api.ErrNone
	}
	if !m.isDir(dir) || !m.isDir(to) {
		return api.ErrDir
	}
	i := m.find(dir, name)
	if i < 0 {
		return api.ErrNone
	}
	if !path.Name(as) {
		return api.ErrArg
	}
	ino := m.entries[i].ino
	if m.within(ino, to) {
		return api.ErrBusy
	}
	j := m.find(to, as)
	if j >= 0 {
		old := m.entries[j].ino
		if old == ino {
			return api.OK
		}
		if m.isDir(old) != m.isDir(ino) {
			return api.ErrFile
		}
		if len(m.of(old)) > 0 {
			return api.ErrBusy
		}
	} else if len(m.of(to)) == 40 && to != dir {
		return api.ErrFull
	}
	m.entries[i] = entry{to, as, ino}
	if j >= 0 {
		m.entries = slices.Delete(m.entries, j, j+1)
	}
	m.sweep()
	return api.OK
}

// expectSame holds all that can be seen of a tree against the model.
func expectSame(t *testing.T, tree *Tree, m *model, names []string) {
	t.Helper()
	for ino := -1; ino <= 202; ino++ {
		got, ok := tree.Stat(ino)
		want, wantOK := m.Stat(ino)
		if got != want || ok != wantOK {
			t.Errorf("Stat(%d): %+v, %v; not %+v, %v", ino, got, ok, want, wantOK)
		}
		if got, want := tree.Data(ino), m.Data(ino); got != want {
			t.Errorf("Data(%d): %.40q, not %.40q", ino, got, want)
		}
		if !ok && ino > 20 {
			continue
		}
		if got, want := tree.Names(ino), m.Names(ino); !slices.Equal(got, want) {
			t.Errorf("Names(%d): %q, not %q", ino, got, want)
		}
		for _, name := range names {
			got, ok := tree.Look(ino, name)
			want, wantOK := m.Look(ino, name)
			if got != want || ok != wantOK {
				t.Errorf("Look(%d, %q): %d, %v; not %d, %v", ino, name, got, ok, want, wantOK)
			}
		}
	}
}

// expectSound looks whether the chapter's consequences hold in a model (which is then held against the tree).
func expectSound(t *testing.T, m *model) {
	t.Helper()
	reached := map[int]bool{}
	var reach func(ino int)
	reach = func(ino int) {
		if !reached[ino] {
			reached[ino] = true
			for _, e := range m.of(ino) {
				reach(e.ino)
			}
		}
	}
	for ino, x := range m.things {
		if ino == 1 || x.kind == api.KindDir && x.holds > 0 {
			reach(ino)
		}
	}
	for ino := range m.things {
		if m.links(ino) > 0 && !reached[ino] {
			t.Errorf("%d is not reached", ino)
		}
		for _, e := range m.of(ino) {
			if m.within(e.ino, ino) {
				t.Errorf("%d contains itself", ino)
			}
		}
	}
}

// walker takes random steps in a tree and in its model.
type walker struct {
	*rand.Rand
	tree  *Tree
	model *model
	names []string // of the entries
	kinds []int    // of the inodes that are made
	upTo  int      // the greatest number of an inode that is asked for
	makes int      // of 100 steps, how many make an inode
	low   int      // up to which number inodes are directories that are filled, and asked for every second time
	did   map[string]map[any]int
}

func (w *walker) ino() int {
	if w.IntN(40) == 0 {
		return []int{-1, 0, 200, 201, 1 << 40}[w.IntN(5)]
	}
	if w.low > 0 && w.IntN(2) == 0 {
		return 1 + w.IntN(w.low)
	}
	for range 3 {
		if ino := 1 + w.IntN(w.upTo); w.model.things[ino] != nil {
			return ino
		}
	}
	return 1 + w.IntN(w.upTo)
}

// entry is a directory and a name, more often than not one that is there.
func (w *walker) entry() (int, string) {
	if len(w.model.entries) > 0 && w.IntN(4) > 0 {
		e := w.model.entries[w.IntN(len(w.model.entries))]
		return e.dir, e.name
	}
	return w.ino(), w.name()
}

// make makes an inode of root's.
func (w *walker) make(kind int) int {
	ino, _ := w.tree.Make(kind, 0o644, 0, 0, 0)
	w.model.Make(kind, 0o644, 0, 0, 0)
	return ino
}

// fill enters files into directories until these are full, or there is no inode left.
func (w *walker) fill(dirs int) {
	for dir := 1; dir <= dirs; dir++ {
		for _, name := range w.names {
			if _, is := w.tree.Look(dir, name); is || len(w.tree.Names(dir)) == 40 {
				continue
			}
			ino := w.make(api.KindFile)
			w.tree.Enter(dir, name, ino)
			w.model.Enter(dir, name, ino)
			w.tree.Drop(ino)
			w.model.Drop(ino)
		}
	}
}

func (w *walker) name() string {
	if w.IntN(20) == 0 {
		return []string{"", ".", "..", "a/b", "fifteen bytes..", "\n", "\x7f"}[w.IntN(7)]
	}
	return w.names[w.IntN(len(w.names))]
}

func (w *walker) own() (int, int, int) {
	if w.IntN(20) == 0 {
		return []int{-1, 0o2000, 0o10000, 0}[w.IntN(4)], []int{-1, 65536, 0}[w.IntN(3)], []int{-1, 65536, 0}[w.IntN(3)]
	}
	return []int{0, 0o755, 0o4755, 0o1777, 0o5777}[w.IntN(5)], w.IntN(65536), w.IntN(65536)
}

// step takes one step and returns what was asked, and both answers.
func (w *walker) step() (string, any, any) {
	if w.IntN(100) < w.makes {
		kind, tty := w.kinds[w.IntN(len(w.kinds))], w.IntN(6)-1
		mode, owner, group := w.own()
		got, err := w.tree.Make(kind, mode, owner, group, tty)
		want, wantErr := w.model.Make(kind, mode, owner, group, tty)
		w.count("Make", err)
		return fmt.Sprintf("Make(%d, %o, %d, %d, %d)", kind, mode, owner, group, tty), []any{got, err}, []any{want, wantErr}
	}
	ino := w.ino()
	switch w.IntN(16) {
	case 0:
		return w.told("Hold", fmt.Sprintf("Hold(%d)", ino), w.tree.Hold(ino), w.model.Hold(ino))
	case 1, 2, 3:
		return w.told("Drop", fmt.Sprintf("Drop(%d)", ino), w.tree.Drop(ino), w.model.Drop(ino))
	case 4:
		mode, owner, group := w.own()
		return w.told("Set", fmt.Sprintf("Set(%d, %o, %d, %d)", ino, mode, owner, group), w.tree.Set(ino, mode, owner, group), w.model.Set(ino, mode, owner, group))
	case 5:
		end := len(w.model.Data(ino))
		at, s := []int{-1, 0, end / 2, end, end + 1}[w.IntN(5)], []string{"", "x", "three", string(make([]byte, 4094))}[w.IntN(4)]
		return w.told("Put", fmt.Sprintf("Put(%d, %d, %.9q)", ino, at, s), w.tree.Put(ino, at, s), w.model.Put(ino, at, s))
	case 6:
		return w.told("Cut", fmt.Sprintf("Cut(%d)", ino), w.tree.Cut(ino), w.model.Cut(ino))
	case 7, 8, 9:
		dir, name := w.ino(), w.name()
		return w.told("Enter", fmt.Sprintf("Enter(%d, %q, %d)", dir, name, ino), w.tree.Enter(dir, name, ino), w.model.Enter(dir, name, ino))
	case 10, 11:
		dir, name := w.entry()
		return w.told("Remove", fmt.Sprintf("Remove(%d, %q)", dir, name), w.tree.Remove(dir, name), w.model.Remove(dir, name))
	}
	dir, name := w.entry()
	to, as := w.entry()
	if w.IntN(2) == 0 {
		to, as = ino, w.name()
	}
	return w.told("Move", fmt.Sprintf("Move(%d, %q, %d, %q)", dir, name, to, as), w.tree.Move(dir, name, to, as), w.model.Move(dir, name, to, as))
}

func (w *walker) told(call, what string, got, want any) (string, any, any) {
	w.count(call, got)
	return what, got, want
}

func (w *walker) count(call string, answer any) {
	if w.did[call] == nil {
		w.did[call] = map[any]int{}
	}
	w.did[call][answer]++
}

// TestModel takes steps at random, from fixed seeds, and holds the tree against the model behind each.
func TestModel(t *testing.T) {
	file, dir, tty := api.KindFile, api.KindDir, api.KindTty
	did := map[string]map[any]int{}
	for _, c := range []struct {
		what               string
		names              int
		kinds              []int
		upTo, makes, low   int
		runs, steps, every int
	}{
		{"few of all", 3, []int{file, dir, dir, tty, -1, 3}, 8, 10, 0, 300, 150, 1},
		{"directories", 4, []int{dir}, 14, 15, 0, 100, 300, 1},
		{"links", 12, []int{file, tty}, 3, 5, 0, 30, 300, 3},
		{"full directories", 60, []int{file, file, dir}, 60, 10, 2, 30, 200, 5},
		{"all inodes", 45, []int{file, dir}, 200, 50, 0, 3, 3000, 50},
	} {
		for run := range c.runs {
			w := &walker{
				Rand:  rand.New(rand.NewPCG(uint64(run), uint64(c.upTo))),
				tree:  New(0o755, 3, 4),
				model: newModel(0o755, 3, 4),
				kinds: c.kinds, upTo: c.upTo, makes: c.makes, low: c.low, did: did,
			}
			for i := range c.names {
				w.names = append(w.names, fmt.Sprintf("n%02d", i))
			}
			if c.low == 2 {
				w.make(api.KindDir)
			}
			look := append([]string{".", "..", "", "a/b"}, w.names...)
			var steps []string
			for i := range c.steps {
				if i%10 == 0 {
					w.fill(w.low)
				}
				what, got, want := w.step()
				steps = append(steps, what)
				if !reflect.DeepEqual(got, want) {
					t.Errorf("%s: %v, not %v", what, got, want)
				}
				if i%c.every == 0 || i == c.steps-1 {
					expectSame(t, w.tree, w.model, look)
					expectSound(t, w.model)
				}
				if t.Failed() {
					t.Fatalf("%s, run %d: %q", c.what, run, steps)
				}
			}
		}
	}
	expectAnswers(t, did)
}

// expectAnswers looks whether each call has answered all that it may.
func expectAnswers(t *testing.T, did map[string]map[any]int) {
	t.Helper()
	for call, answers := range map[string][]any{
		"Make":   {api.OK, api.ErrArg, api.ErrFull},
		"Hold":   {true, false},
		"Drop":   {true, false},
		"Set":    {api.OK, api.ErrNone, api.ErrArg},
		"Put":    {api.OK, api.ErrNone, api.ErrFile, api.ErrArg, api.ErrFull},
		"Cut":    {api.OK, api.ErrNone, api.ErrFile, api.ErrArg},
		"Enter":  {api.OK, api.ErrNone, api.ErrDir, api.ErrArg, api.ErrIs, api.ErrMany, api.ErrFull, api.ErrBusy},
		"Remove": {api.OK, api.ErrNone, api.ErrDir, api.ErrBusy},
		"Move":   {api.OK, api.ErrNone, api.ErrDir, api.ErrArg, api.ErrBusy, api.ErrFile, api.ErrFull},
	} {
		for _, answer := range answers {
			if did[call][answer] == 0 {
				t.Errorf("%s never answered %v", call, answer)
			}
		}
	}
}
