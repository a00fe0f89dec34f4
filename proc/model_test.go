package proc_test

import (
	"fmt"
	"math/rand/v2"
	"slices"
	"testing"

	"almoner/api"
	"almoner/proc"
)

// one is a process of the model: it is never taken out of the list, but marked as gone.
type one struct {
	proc.Process
	gone bool
}

// model is a table written down as plainly as it goes: a list of all processes that there ever were, the one with pid 1 first, and of all users that each of them ever was outside the reserve.
type model struct {
	ever []one
	was  map[int]int
}

func newModel() *model {
	return &model{[]one{{Process: proc.Process{Pid: 1, Session: 1, Reserve: true}}}, map[int]int{}}
}

// at returns a process that is there, dead or not, or nil.
func (m *model) at(pid int) *one {
	if pid < 1 || pid > len(m.ever) || m.ever[pid-1].gone {
		return nil
	}
	return &m.ever[pid-1]
}

// alive returns a process that is not dead, or nil.
func (m *model) alive(pid int) *one {
	x := m.at(pid)
	if x != nil && x.Dead {
		return nil
	}
	return x
}

// howMany counts the processes of which something holds.
func (m *model) howMany(holds func(x one) bool) int {
	n := 0
	for _, x := range m.ever {
		if !x.gone && holds(x) {
			n++
		}
	}
	return n
}

func (m *model) Count(uid int) int {
	return m.howMany(func(x one) bool { return x.User == uid && !x.Reserve })
}

func (m *model) Known() int { return len(m.was) }

func (m *model) Fork(parent int, reserve bool) (int, api.Errno) {
	x := m.alive(parent)
	if x == nil {
		return 0, api.ErrNone
	}
	if reserve && parent != 1 {
		return 0, api.ErrPerm
	}
	if reserve && m.howMany(func(x one) bool { return x.Reserve }) == 5 {
		return 0, api.ErrMany
	}
	if !reserve && x.Reserve && m.was[x.User] == 0 && len(m.was) == 8 {
		return 0, api.ErrMany
	}
	if !reserve && m.Count(x.User) == 6 {
		return 0, api.ErrAgain
	}
	pid := len(m.ever) + 1
	if !reserve {
		m.was[x.User]++
	}
	m.ever = append(m.ever, one{Process: proc.Process{Pid: pid, Parent: parent, User: x.User, Session: x.Session, Reserve: reserve}})
	return pid, api.OK
}

func (m *model) Becomes(pid, uid int) api.Errno {
	x := m.alive(pid)
	if x == nil {
		return api.ErrNone
	}
	if uid < 0 || uid >= 65536 {
		return api.ErrArg
	}
	if x.User == uid && !x.Reserve {
		return api.OK
	}
	if m.was[uid] == 0 && len(m.was) == 8 {
		return api.ErrMany
	}
	if m.Count(uid) == 6 {
		return api.ErrAgain
	}
	x.User = uid
	x.Reserve = false
	m.was[uid]++
	return api.OK
}

func (m *model) Leads(pid int) api.Errno {
	x := m.alive(pid)
	if x == nil {
		return api.ErrNone
	}
	x.Session = pid
	return api.OK
}

func (m *model) Exit(pid, status int) api.Errno {
	x := m.alive(pid)
	if x == nil {
		return api.ErrNone
	}
	if pid == 1 {
		return api.ErrPerm
	}
	x.Dead = true
	x.Status = status
	for i := range m.ever {
		if m.ever[i].Parent == pid {
			m.ever[i].Parent = 1
		}
	}
	return api.OK
}

func (m *model) Wait(pid, child int) (int, int, api.Errno) {
	if m.alive(pid) == nil {
		return 0, 0, api.ErrNone
	}
	mine := func(x one) bool { return x.Parent == pid && (child < 1 || child == x.Pid) }
	if m.howMany(mine) == 0 {
		return 0, 0, api.ErrChild
	}
	for i, x := range m.ever {
		if !x.gone && mine(x) && x.Dead {
			m.ever[i].gone = true
			return x.Pid, x.Status, api.OK
		}
	}
	return 0, 0, api.OK
}

func (m *model) Get(pid int) (proc.Process, bool) {
	x := m.at(pid)
	if x == nil {
		return proc.Process{}, false
	}
	return x.Process, true
}

func (m *model) All() []proc.Process {
	var all []proc.Process
	for _, x := range m.ever {
		if !x.gone {
			all = append(all, x.Process)
		}
	}
	return all
}

// tabler is the table, and its model.
type tabler interface {
	Fork(parent int, reserve bool) (int, api.Errno)
	Becomes(pid, uid int) api.Errno
	Leads(pid int) api.Errno
	Exit(pid, status int) api.Errno
	Wait(pid, child int) (int, int, api.Errno)
	Get(pid int) (proc.Process, bool)
	All() []proc.Process
	Count(uid int) int
	Known() int
}

// pidsOf returns the pids of processes.
func pidsOf(list []proc.Process) []int {
	var pids []int
	for _, p := range list {
		pids = append(pids, p.Pid)
	}
	return pids
}

// step takes one step that a seed chooses, by one of the processes with these pids, and tells what was asked and answered; a greater part of the steps forks if `forks` is greater.
func step(x tabler, seed uint64, pids []int, forks int) string {
	r := rand.New(rand.NewPCG(seed, 11))
	pid := pids[r.IntN(len(pids))]
	switch c := r.IntN(100); {
	case c < forks:
		n, err := x.Fork(pid, false)
		return fmt.Sprint("Fork ", pid, ": ", n, err)
	case c < forks+8:
		if r.IntN(4) > 0 {
			pid = 1
		}
		n, err := x.Fork(pid, true)
		return fmt.Sprint("Fork ", pid, " of the reserve: ", n, err)
	case c < forks+20:
		uid := r.IntN(11) * 3
		if pid == 1 && r.IntN(8) > 0 { // not often: the reserve is to have its user, too
			pid = pids[len(pids)-1]
		}
		if r.IntN(15) == 0 {
			uid = []int{-1, 65535, 65536, 1}[r.IntN(4)]
		}
		return fmt.Sprint("Becomes ", pid, uid, ": ", x.Becomes(pid, uid))
	case c < forks+23:
		return fmt.Sprint("Leads ", pid, ": ", x.Leads(pid))
	case c < 75:
		status := r.IntN(300) - 20
		return fmt.Sprint("Exit ", pid, status, ": ", x.Exit(pid, status))
	default:
		child := r.IntN(3) - 2
		if r.IntN(2) == 0 {
			child = pids[r.IntN(len(pids))]
		}
		n, status, err := x.Wait(pid, child)
		return fmt.Sprint("Wait ", pid, child, ": ", n, status, err)
	}
}

// counted are users whose processes the tests count: all that a step may name, and others.
var counted = []int{-1, 0, 1, 2, 3, 6, 9, 12, 15, 18, 21, 24, 27, 30, 33, 65535, 65536}

// unlike tells what can be seen of a table that is not as in its model, or nothing; to look for pids that are not there goes up to the number last.
func unlike(x *proc.Table, m *model, last int) string {
	if got, want := x.All(), m.All(); !slices.Equal(got, want) {
		return fmt.Sprintf("All: %+v, not %+v", got, want)
	}
	if got, want := x.Known(), m.Known(); got != want {
		return fmt.Sprintf("Known: %d, not %d", got, want)
	}
	for _, uid := range counted {
		if got, want := x.Count(uid), m.Count(uid); got != want {
			return fmt.Sprintf("Count(%d): %d, not %d", uid, got, want)
		}
	}
	for pid := -2; pid <= last; pid++ {
		got, ok := x.Get(pid)
		if want, wantOk := m.Get(pid); got != want || ok != wantOk {
			return fmt.Sprintf("Get(%d): %+v, %v; not %+v, %v", pid, got, ok, want, wantOk)
		}
	}
	return ""
}

// lawful tells what a table breaks of what the chapter says of all tables, or nothing.
func lawful(x *proc.Table) string {
	list := x.All()
	if len(list) > 53 || x.Known() > 8 {
		return "more than there may be"
	}
	reserved, outside := 0, 0
	users := map[int]int{}
	for i, p := range list {
		got, ok := x.Get(p.Pid)
		_, up := x.Get(p.Parent)
		switch {
		case got != p || !ok:
			return fmt.Sprint("Get of ", p.Pid)
		case i > 0 && list[i-1].Pid >= p.Pid:
			return fmt.Sprint("the order at ", p.Pid)
		case (p.Pid == 1) != (p.Parent == 0) || p.Pid != 1 && !up:
			return fmt.Sprint("the parent of ", p.Pid)
		case !p.Dead && p.Status != 0:
			return fmt.Sprint("the status of ", p.Pid)
		}
		if p.Reserve {
			reserved++
		} else {
			users[p.User]++
		}
	}
	for uid, n := range users {
		outside += n
		if n > 6 || n != x.Count(uid) {
			return fmt.Sprint("the count of ", uid)
		}
	}
	if reserved > 5 || reserved+outside != len(list) || len(users) > x.Known() {
		return "the reserve, or the known users"
	}
	return ""
}

// TestModel takes random steps from fixed seeds, each on a table and on its model; some runs fill the table, others empty it.
func TestModel(t *testing.T) {
	fullest, told := 0, map[string]int{}
	for run := range uint64(100) {
		x, m := proc.New(), newModel()
		for i := range uint64(500) {
			seed := run*1000 + i
			there := pidsOf(m.All())
			last := there[len(there)-1]
			fullest = max(fullest, len(there))
			pids := append(there, -1, 0, last+1, last+3, last/2, last-2) // the last ones may be gone
			forks := 20 + int(run)%7*5
			got, want := step(x, seed, pids, forks), step(m, seed, pids, forks)
			if got != want {
				t.Fatalf("run %d, step %d: %s; not %s", run, i, got, want)
			}
			if s := unlike(x, m, last+4); s != "" {
				t.Fatalf("run %d, behind step %d, %s: %s", run, i, got, s)
			}
			if s := lawful(x); s != "" {
				t.Fatalf("run %d, behind step %d, %s: %s", run, i, got, s)
			}
			told[got[:4]+got[len(got)-2:]]++
		}
	}
	if fullest < 50 {
		t.Errorf("no run filled the table: at most %d", fullest)
	}
	for _, s := range []string{"Fork00", "Fork02", "Fork03", "Fork12", "Fork13", "Beco00", "Beco01", "Beco03", "Beco12", "Beco13",
		"Lead00", "Lead03", "Exit00", "Exit02", "Exit03", "Wait00", "Wait03", "Wait16"} {
		if told[s] < 20 {
			t.Errorf("the steps reached %s %d times", s, told[s])
		}
	}
}

// TestNobodyStarves lets the processes of others take random steps: one user may fork all the time, up to the bound (P6).
func TestNobodyStarves(t *testing.T) {
	for run := range uint64(40) {
		x := proc.New()
		mine := entered(t, x, 100)
		for i := range uint64(300) {
			others := slices.DeleteFunc(x.All(), func(p proc.Process) bool { return p.User == 100 })
			step(x, run*1000+i, pidsOf(others), 45)
			var own []int
			for x.Count(100) < perUser {
				pid, err := x.Fork(mine, false)
				if err != api.OK {
					t.Fatalf("run %d, behind step %d: Fork(%d): %v", run, i, mine, err)
				}
				own = append(own, pid)
			}
			for _, pid := range own {
				wantEnds(t, x, mine, pid)
			}
		}
	}
}

// wantEnds lets a child of a process exit, and tells if its parent can't wait for it.
func wantEnds(t *testing.T, x *proc.Table, parent, pid int) {
	t.Helper()
	if err := x.Exit(pid, 3); err != api.OK {
		t.Fatalf("Exit(%d): %v", pid, err)
	}
	if got, status, err := x.Wait(parent, 0); got != pid || status != 3 || err != api.OK {
		t.Fatalf("Wait(%d, 0): %d, %d, %v; not %d", parent, got, status, err, pid)
	}
}

// TestNobodyIsLeft lets all processes but the first exit, in a random order: process 1 can wait for each of them (P6).
func TestNobodyIsLeft(t *testing.T) {
	for run := range uint64(60) {
		x := proc.New()
		for i := range uint64(200) {
			step(x, run*1000+i, pidsOf(x.All()), 45)
		}
		want := pidsOf(x.All()[1:])
		order := slices.Clone(want)
		r := rand.New(rand.NewPCG(run, 12))
		r.Shuffle(len(order), func(i, k int) { order[i], order[k] = order[k], order[i] })
		for _, pid := range order {
			x.Exit(pid, 0) // some are dead
		}
		var got []int
		for range want {
			pid, _, _ := x.Wait(1, 0)
			got = append(got, pid)
		}
		if !slices.Equal(got, want) || len(x.All()) != 1 {
			t.Errorf("run %d: %v were waited for, not %v", run, got, want)
		}
	}
}
