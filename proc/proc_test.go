package proc_test

import (
	"fmt"
	"math"
	"slices"
	"testing"

	"almoner/api"
	"almoner/proc"
)

// The bounds: the processes of the reserve, those of a user, the users who are known, and the processes in all.
const (
	reserve = 5
	perUser = 6
	users   = 8
	most    = 53
)

// never are numbers that no process of a short test has.
var never = []int{0, -1, -2, 1000, 65536, 1 << 32, 1<<32 + 1, -1 << 32, math.MinInt, math.MinInt + 1, math.MaxInt}

// noIDs are numbers that no user has.
var noIDs = []int{-1, -2, -5, 65536, 65537, 1 << 32, 1<<32 + 5, -1 << 32, math.MinInt, math.MaxInt}

// state is all that can be seen of a table.
func state(p *proc.Table) string {
	counts := ""
	for uid := -1; uid < 20; uid++ {
		counts += fmt.Sprint(" ", p.Count(uid))
	}
	return fmt.Sprintf("%+v, known %d, counts%s", p.All(), p.Known(), counts)
}

// wantState tells if a table is not as it was.
func wantState(t *testing.T, what string, p *proc.Table, was string) {
	t.Helper()
	if is := state(p); is != was {
		t.Errorf("%s changed\n%s\nto\n%s", what, was, is)
	}
}

// wantFork forks and tells if the answer is not the one that is wanted, or if an error changes anything.
func wantFork(t *testing.T, p *proc.Table, parent int, reserve bool, pid int, err api.Errno) {
	t.Helper()
	what, was := fmt.Sprintf("Fork(%d, %v)", parent, reserve), state(p)
	if got, gotErr := p.Fork(parent, reserve); got != pid || gotErr != err {
		t.Errorf("%s: %d, %v; not %d, %v", what, got, gotErr, pid, err)
	}
	if err != api.OK {
		wantState(t, what, p, was)
	}
}

func wantBecomes(t *testing.T, p *proc.Table, pid, uid int, err api.Errno) {
	t.Helper()
	what, was := fmt.Sprintf("Becomes(%d, %d)", pid, uid), state(p)
	if got := p.Becomes(pid, uid); got != err {
		t.Errorf("%s: %v, not %v", what, got, err)
	}
	if err != api.OK {
		wantState(t, what, p, was)
	}
}

func wantLeads(t *testing.T, p *proc.Table, pid int, err api.Errno) {
	t.Helper()
	what, was := fmt.Sprintf("Leads(%d)", pid), state(p)
	if got := p.Leads(pid); got != err {
		t.Errorf("%s: %v, not %v", what, got, err)
	}
	if err != api.OK {
		wantState(t, what, p, was)
	}
}

func wantExit(t *testing.T, p *proc.Table, pid, status int, err api.Errno) {
	t.Helper()
	what, was := fmt.Sprintf("Exit(%d, %d)", pid, status), state(p)
	if got := p.Exit(pid, status); got != err {
		t.Errorf("%s: %v, not %v", what, got, err)
	}
	if err != api.OK {
		wantState(t, what, p, was)
	}
}

// wantWait waits and tells if the answer is not the one that is wanted, or if anything changes where no child is removed.
func wantWait(t *testing.T, p *proc.Table, pid, child int, dead, status int, err api.Errno) {
	t.Helper()
	what, was := fmt.Sprintf("Wait(%d, %d)", pid, child), state(p)
	if got, gotStatus, gotErr := p.Wait(pid, child); got != dead || gotStatus != status || gotErr != err {
		t.Errorf("%s: %d, %d, %v; not %d, %d, %v", what, got, gotStatus, gotErr, dead, status, err)
	}
	if dead == 0 {
		wantState(t, what, p, was)
	}
}

// wantIs tells if a process is not this one.
func wantIs(t *testing.T, p *proc.Table, want proc.Process) {
	t.Helper()
	if got, ok := p.Get(want.Pid); got != want || !ok {
		t.Errorf("Get(%d): %+v, %v; not %+v", want.Pid, got, ok, want)
	}
}

// wantNone tells if there is such a process.
func wantNone(t *testing.T, p *proc.Table, pid int) {
	t.Helper()
	if got, ok := p.Get(pid); got != (proc.Process{}) || ok {
		t.Errorf("Get(%d): %+v, %v; not nothing", pid, got, ok)
	}
}

func wantCount(t *testing.T, p *proc.Table, uid, n int) {
	t.Helper()
	if got := p.Count(uid); got != n {
		t.Errorf("Count(%d): %d, not %d", uid, got, n)
	}
}

func wantKnown(t *testing.T, p *proc.Table, n int) {
	t.Helper()
	if got := p.Known(); got != n {
		t.Errorf("Known: %d, not %d", got, n)
	}
}

// wantPids tells if a table has other processes than these.
func wantPids(t *testing.T, p *proc.Table, pids ...int) {
	t.Helper()
	var got []int
	for _, x := range p.All() {
		got = append(got, x.Pid)
	}
	if !slices.Equal(got, pids) {
		t.Errorf("All: %v, not %v", got, pids)
	}
}

// child forks and returns the pid.
func child(t *testing.T, p *proc.Table, parent int, reserve bool) int {
	t.Helper()
	pid, err := p.Fork(parent, reserve)
	if err != api.OK {
		t.Fatalf("Fork(%d, %v): %v", parent, reserve, err)
	}
	return pid
}

// children forks n times.
func children(t *testing.T, p *proc.Table, parent, n int) {
	t.Helper()
	for range n {
		child(t, p, parent, false)
	}
}

// entered returns a process that came through the reserve and became a user.
func entered(t *testing.T, p *proc.Table, uid int) int {
	t.Helper()
	pid := child(t, p, 1, true)
	wantBecomes(t, p, pid, uid, api.OK)
	return pid
}

// ended lets a process exit and removes it, as a child of process 1.
func ended(t *testing.T, p *proc.Table, pid int) {
	t.Helper()
	wantExit(t, p, pid, 0, api.OK)
	wantWait(t, p, 1, pid, pid, 0, api.OK)
}

// crowd returns a table that knows the users 11 to 10 + n, each of whom has one process: 2 to 1 + n.
func crowd(t *testing.T, n int) *proc.Table {
	t.Helper()
	p := proc.New()
	for i := range n {
		if pid := entered(t, p, 11+i); pid != 2+i {
			t.Fatalf("user %d has process %d", 11+i, pid)
		}
	}
	wantKnown(t, p, n)
	return p
}

// TestExample takes the steps of the chapter's example.
func TestExample(t *testing.T) {
	p := proc.New()
	wantFork(t, p, 1, true, 2, api.OK)
	wantBecomes(t, p, 2, 5, api.OK)
	for i := range 5 {
		wantFork(t, p, 2, false, 3+i, api.OK)
	}
	wantFork(t, p, 2, false, 0, api.ErrAgain)
	wantExit(t, p, 3, 7, api.OK)
	wantWait(t, p, 2, 0, 3, 7, api.OK)
	wantFork(t, p, 2, false, 8, api.OK)
}

func TestNew(t *testing.T) {
	p := proc.New()
	if p == nil {
		t.Fatal("no table")
	}
	wantIs(t, p, proc.Process{Pid: 1, Session: 1, Reserve: true})
	wantPids(t, p, 1)
	wantKnown(t, p, 0)
	for uid := range 20 {
		wantCount(t, p, uid, 0)
	}
	for _, pid := range append(never, 2, 3) {
		wantNone(t, p, pid)
	}
}

// TestTwo looks whether a table changes by what is done with another one.
func TestTwo(t *testing.T) {
	p, q := proc.New(), proc.New()
	was := state(q)
	pid := entered(t, p, 5)
	children(t, p, pid, 3)
	wantExit(t, p, 3, 1, api.OK)
	wantState(t, "another table", q, was)
	wantFork(t, q, 1, true, 2, api.OK)
	wantFork(t, q, 1, false, 3, api.OK)
	wantFork(t, p, pid, false, 6, api.OK)
}

// TestFork looks at what children have of their parents.
func TestFork(t *testing.T) {
	p := proc.New()
	wantFork(t, p, 1, true, 2, api.OK)
	wantIs(t, p, proc.Process{Pid: 2, Parent: 1, Session: 1, Reserve: true})
	wantFork(t, p, 1, false, 3, api.OK)
	wantIs(t, p, proc.Process{Pid: 3, Parent: 1, Session: 1})
	wantFork(t, p, 2, false, 4, api.OK) // out of the reserve
	wantIs(t, p, proc.Process{Pid: 4, Parent: 2, Session: 1})
	wantCount(t, p, 0, 2)
	wantLeads(t, p, 4, api.OK)
	wantBecomes(t, p, 4, 9, api.OK)
	wantFork(t, p, 4, false, 5, api.OK)
	wantIs(t, p, proc.Process{Pid: 5, Parent: 4, User: 9, Session: 4})
	wantFork(t, p, 5, false, 6, api.OK)
	wantIs(t, p, proc.Process{Pid: 6, Parent: 5, User: 9, Session: 4})
	wantFork(t, p, 3, false, 7, api.OK)
	wantIs(t, p, proc.Process{Pid: 7, Parent: 3, Session: 1})
	wantIs(t, p, proc.Process{Pid: 1, Session: 1, Reserve: true})
	wantIs(t, p, proc.Process{Pid: 4, Parent: 2, User: 9, Session: 4})
	wantCount(t, p, 0, 2)
	wantCount(t, p, 9, 3)
	wantKnown(t, p, 2)
	wantPids(t, p, 1, 2, 3, 4, 5, 6, 7)
}

// TestForkPids looks whether pids rise, whatever was removed.
func TestForkPids(t *testing.T) {
	p := proc.New()
	for pid := 2; pid < 300; pid++ {
		wantFork(t, p, 1, pid%2 == 0, pid, api.OK)
		if pid%3 != 0 { // some of them become a user first
			wantBecomes(t, p, pid, pid%5, api.OK)
		}
		ended(t, p, pid)
		wantPids(t, p, 1)
	}
	wantFork(t, p, 1, true, 300, api.OK)
	wantFork(t, p, 300, false, 301, api.OK)
	ended(t, p, 300)
	wantFork(t, p, 301, false, 302, api.OK) // 300 is free, but was assigned
	wantPids(t, p, 1, 301, 302)
}

// TestForkNone forks processes that are not there, or dead: also where other errors would apply.
func TestForkNone(t *testing.T) {
	p := crowd(t, users)
	for range reserve - 1 {
		child(t, p, 1, true)
	}
	children(t, p, 2, perUser-1)
	wantFork(t, p, 1, true, 0, api.ErrMany)
	wantFork(t, p, 1, false, 0, api.ErrMany)
	wantFork(t, p, 2, false, 0, api.ErrAgain)
	wantFork(t, p, 2, true, 0, api.ErrPerm)
	wantExit(t, p, 2, 0, api.OK)
	wantExit(t, p, 10, 0, api.OK) // of the reserve
	ended(t, p, 4)
	for _, pid := range append(never, 2, 4, 10, 19) {
		wantFork(t, p, pid, false, 0, api.ErrNone)
		wantFork(t, p, pid, true, 0, api.ErrNone)
	}
	wantFork(t, p, 3, false, 19, api.OK) // no pid was assigned by an error
}

// TestForkReserve fills the reserve: process 1 and four others, dead ones as well.
func TestForkReserve(t *testing.T) {
	p := proc.New()
	for pid := 2; pid <= reserve; pid++ {
		wantFork(t, p, 1, true, pid, api.OK)
		wantIs(t, p, proc.Process{Pid: pid, Parent: 1, Session: 1, Reserve: true})
	}
	wantFork(t, p, 1, true, 0, api.ErrMany)
	wantKnown(t, p, 0)
	wantCount(t, p, 0, 0)
	wantExit(t, p, 3, 0, api.OK)
	wantFork(t, p, 1, true, 0, api.ErrMany)
	wantWait(t, p, 1, 0, 3, 0, api.OK)
	wantFork(t, p, 1, true, 6, api.OK)
	wantFork(t, p, 1, true, 0, api.ErrMany)
	wantBecomes(t, p, 4, 0, api.OK)
	wantFork(t, p, 1, true, 7, api.OK)
	wantFork(t, p, 1, true, 0, api.ErrMany)
	wantFork(t, p, 7, false, 8, api.OK) // a child out of the reserve takes no place in it
	wantFork(t, p, 1, false, 9, api.OK)
	wantFork(t, p, 1, true, 0, api.ErrMany)
}

// TestForkReservePerm asks for the reserve as another process than 1, which is wrong ahead of a full reserve.
func TestForkReservePerm(t *testing.T) {
	for n := range reserve {
		p := crowd(t, 2)
		children(t, p, 2, 1)
		children(t, p, 3, perUser-1)
		children(t, p, 1, 1)
		pids := []int{2, 3, 4, 5, 10} // users, children of theirs, and of process 1
		for range n {
			if pid, err := p.Fork(1, true); err == api.OK {
				pids = append(pids, pid)
			}
		}
		for _, pid := range pids {
			wantFork(t, p, pid, true, 0, api.ErrPerm)
		}
	}
}

// TestForkReserveFree forks into the reserve where no user may fork: neither those who are known nor what they have matters.
func TestForkReserveFree(t *testing.T) {
	p := crowd(t, users)
	for pid := 2; pid <= 1+users; pid++ {
		children(t, p, pid, perUser-1)
	}
	wantFork(t, p, 1, false, 0, api.ErrMany)
	for i := range reserve - 1 {
		wantFork(t, p, 1, true, 50+i, api.OK)
	}
	wantFork(t, p, 1, true, 0, api.ErrMany)

	p = proc.New()
	children(t, p, 1, perUser)
	wantFork(t, p, 1, false, 0, api.ErrAgain)
	wantFork(t, p, 1, true, 8, api.OK)
	wantIs(t, p, proc.Process{Pid: 8, Parent: 1, Session: 1, Reserve: true})
	wantFork(t, p, 8, false, 0, api.ErrAgain)
}

// TestForkUnknown forks out of the reserve with a user who is not known: a new one, or one too many.
func TestForkUnknown(t *testing.T) {
	for n := range users + 1 {
		p := crowd(t, n)
		wantFork(t, p, 1, true, n+2, api.OK)
		for _, parent := range []int{1, n + 2} {
			if n == users {
				wantFork(t, p, parent, false, 0, api.ErrMany)
				wantKnown(t, p, n)
				continue
			}
			child(t, p, parent, false)
			wantKnown(t, p, n+1)
		}
	}
}

// TestForkKnown forks out of the reserve with a user who is one of the eight that are known, also without a process.
func TestForkKnown(t *testing.T) {
	p := crowd(t, users-1)
	pid := entered(t, p, 0)
	wantKnown(t, p, users)
	wantFork(t, p, 1, false, pid+1, api.OK)
	ended(t, p, pid)
	ended(t, p, pid+1)
	wantCount(t, p, 0, 0)
	wantKnown(t, p, users)
	for i := range perUser {
		wantFork(t, p, 1, false, pid+2+i, api.OK)
	}
	wantFork(t, p, 1, false, 0, api.ErrAgain)
	wantKnown(t, p, users)
}

// TestForkAgain forks until a user has as many processes as any, dead ones included, and looks at the others.
func TestForkAgain(t *testing.T) {
	p := crowd(t, 3)
	for i := range perUser - 1 {
		wantFork(t, p, 2, false, 5+i, api.OK)
		wantCount(t, p, 11, 2+i)
	}
	wantFork(t, p, 2, false, 0, api.ErrAgain)
	wantFork(t, p, 7, false, 0, api.ErrAgain) // a child of the same user
	wantExit(t, p, 5, 0, api.OK)
	wantCount(t, p, 11, perUser)
	wantFork(t, p, 2, false, 0, api.ErrAgain)
	wantFork(t, p, 3, false, 10, api.OK)
	wantWait(t, p, 2, 0, 5, 0, api.OK)
	wantCount(t, p, 11, perUser-1)
	wantFork(t, p, 7, false, 11, api.OK)
	wantFork(t, p, 2, false, 0, api.ErrAgain)
	wantBecomes(t, p, 11, 12, api.OK) // away to another user
	wantFork(t, p, 2, false, 12, api.OK)
	wantFork(t, p, 2, false, 0, api.ErrAgain)
	wantCount(t, p, 12, 3)
	wantCount(t, p, 13, 1)
}

// TestFull makes as many processes as there may be, and asks each for one more.
func TestFull(t *testing.T) {
	p := crowd(t, users)
	for pid := 2; pid <= 1+users; pid++ {
		children(t, p, pid, perUser-1)
	}
	for range reserve - 1 {
		child(t, p, 1, true)
	}
	all := p.All()
	if len(all) != most {
		t.Fatalf("%d processes", len(all))
	}
	for _, x := range all {
		err := api.ErrAgain
		if x.Reserve {
			err = api.ErrMany
		}
		wantFork(t, p, x.Pid, false, 0, err)
		if x.Pid == 1 {
			wantFork(t, p, x.Pid, true, 0, api.ErrMany)
		} else {
			wantFork(t, p, x.Pid, true, 0, api.ErrPerm)
		}
	}
}

// TestBecomes lets processes of the reserve and others become users, to the last id.
func TestBecomes(t *testing.T) {
	for _, uid := range []int{0, 1, 5, 1000, 65534, 65535} {
		p := proc.New()
		wantFork(t, p, 1, true, 2, api.OK)
		wantLeads(t, p, 2, api.OK)
		wantFork(t, p, 2, false, 3, api.OK)
		wantBecomes(t, p, 2, uid, api.OK)
		wantIs(t, p, proc.Process{Pid: 2, Parent: 1, User: uid, Session: 2})
		wantIs(t, p, proc.Process{Pid: 3, Parent: 2, Session: 2}) // children stay who they are
		wantBecomes(t, p, 3, uid, api.OK)
		wantIs(t, p, proc.Process{Pid: 3, Parent: 2, User: uid, Session: 2})
		wantCount(t, p, uid, 2)
		wantIs(t, p, proc.Process{Pid: 1, Session: 1, Reserve: true})
		if uid != 0 {
			wantCount(t, p, 0, 0)
			wantKnown(t, p, 2)
		} else {
			wantKnown(t, p, 1)
		}
	}
}

// TestBecomesFirst takes process 1 itself out of the reserve: that has a place more then, and its children there have its user.
func TestBecomesFirst(t *testing.T) {
	p := proc.New()
	wantBecomes(t, p, 1, 5, api.OK)
	wantIs(t, p, proc.Process{Pid: 1, User: 5, Session: 1})
	wantCount(t, p, 5, 1)
	wantKnown(t, p, 1)
	for pid := 2; pid <= 1+reserve; pid++ {
		wantFork(t, p, 1, true, pid, api.OK)
		wantIs(t, p, proc.Process{Pid: pid, Parent: 1, User: 5, Session: 1, Reserve: true})
	}
	wantFork(t, p, 1, true, 0, api.ErrMany)
	wantCount(t, p, 5, 1)
	for i := range perUser - 1 {
		wantFork(t, p, 1, false, 7+i, api.OK)
	}
	wantFork(t, p, 1, false, 0, api.ErrAgain)
	wantExit(t, p, 1, 0, api.ErrPerm)
}

// TestBecomesNone asks for processes that are not there, or dead: also where other errors would apply.
func TestBecomesNone(t *testing.T) {
	p := crowd(t, users)
	children(t, p, 3, perUser-1)
	wantExit(t, p, 2, 0, api.OK)
	ended(t, p, 4)
	for _, pid := range append(never, 2, 4, 15) {
		for _, uid := range append(noIDs, 0, 11, 12, 13, 14, 65535) {
			wantBecomes(t, p, pid, uid, api.ErrNone)
		}
	}
}

// TestBecomesArg asks for users that there can't be: also where eight are known.
func TestBecomesArg(t *testing.T) {
	for _, n := range []int{1, users} {
		p := crowd(t, n)
		pid := child(t, p, 1, true)
		for _, uid := range noIDs {
			wantBecomes(t, p, 1, uid, api.ErrArg)
			wantBecomes(t, p, 2, uid, api.ErrArg)
			wantBecomes(t, p, pid, uid, api.ErrArg)
			wantCount(t, p, uid, 0)
		}
	}
}

// TestBecomesSame asks for the user that a process has: nothing happens, also where the user has all processes already.
func TestBecomesSame(t *testing.T) {
	p := crowd(t, users)
	children(t, p, 2, perUser-1)
	for pid := 2; pid <= users+perUser; pid++ {
		x, _ := p.Get(pid)
		was := state(p)
		wantBecomes(t, p, pid, x.User, api.OK)
		wantState(t, "Becomes", p, was)
	}
}

// TestBecomesSameReserve takes processes of the reserve to the user that they have: they are counted from then on.
func TestBecomesSameReserve(t *testing.T) {
	p := proc.New()
	wantFork(t, p, 1, true, 2, api.OK)
	wantFork(t, p, 1, true, 3, api.OK)
	wantBecomes(t, p, 2, 0, api.OK)
	wantIs(t, p, proc.Process{Pid: 2, Parent: 1, Session: 1})
	wantCount(t, p, 0, 1)
	wantKnown(t, p, 1)
	children(t, p, 2, perUser-1)
	wantBecomes(t, p, 3, 0, api.ErrAgain)
	wantBecomes(t, p, 1, 0, api.ErrAgain)

	p = crowd(t, users)
	wantFork(t, p, 1, true, 10, api.OK)
	wantBecomes(t, p, 10, 0, api.ErrMany)
	wantBecomes(t, p, 1, 0, api.ErrMany)
}

// TestBecomesMany asks for a ninth user, and for each of the eight.
func TestBecomesMany(t *testing.T) {
	for n := range users + 1 {
		p := crowd(t, n)
		pid := child(t, p, 1, true)
		for i := range n {
			wantBecomes(t, p, pid, 11+i, api.OK)
			wantKnown(t, p, n)
		}
		if n == users {
			wantBecomes(t, p, pid, 0, api.ErrMany)
			wantBecomes(t, p, 2, 19, api.ErrMany)
			wantBecomes(t, p, 1, 65535, api.ErrMany)
			wantKnown(t, p, n)
			continue
		}
		wantBecomes(t, p, pid, 19, api.OK)
		wantKnown(t, p, n+1)
	}
}

// TestBecomesKnown looks whether users stay known of whom there is no process any more.
func TestBecomesKnown(t *testing.T) {
	p := proc.New()
	wantFork(t, p, 1, true, 2, api.OK)
	for i := range users {
		wantBecomes(t, p, 2, 11+i, api.OK)
		wantKnown(t, p, 1+i)
	}
	for uid := range 11 {
		wantBecomes(t, p, 2, uid, api.ErrMany)
	}
	ended(t, p, 2)
	wantPids(t, p, 1)
	wantKnown(t, p, users)
	wantFork(t, p, 1, true, 3, api.OK)
	wantBecomes(t, p, 3, 19, api.ErrMany)
	wantBecomes(t, p, 3, 11, api.OK)
	wantBecomes(t, p, 3, 18, api.OK)
	wantKnown(t, p, users)
}

// TestBecomesAgain asks for a user who has as many processes as any, dead ones included.
func TestBecomesAgain(t *testing.T) {
	p := crowd(t, 3)
	children(t, p, 2, perUser-1) // 5 to 9
	wantFork(t, p, 1, true, 10, api.OK)
	wantBecomes(t, p, 3, 11, api.ErrAgain)
	wantBecomes(t, p, 10, 11, api.ErrAgain)
	wantBecomes(t, p, 1, 11, api.ErrAgain)
	wantExit(t, p, 5, 0, api.OK)
	wantBecomes(t, p, 3, 11, api.ErrAgain)
	wantWait(t, p, 2, 5, 5, 0, api.OK)
	wantBecomes(t, p, 3, 11, api.OK)
	wantCount(t, p, 11, perUser)
	wantCount(t, p, 12, 0)
	wantBecomes(t, p, 10, 11, api.ErrAgain)
	wantBecomes(t, p, 6, 13, api.OK)
	wantCount(t, p, 13, 2)
	wantBecomes(t, p, 10, 11, api.OK)
	wantCount(t, p, 11, perUser)
	wantBecomes(t, p, 4, 11, api.ErrAgain)
}

func TestLeads(t *testing.T) {
	p := crowd(t, 1)
	children(t, p, 2, 2)
	for range 2 { // twice is as good as once
		wantLeads(t, p, 3, api.OK)
		wantIs(t, p, proc.Process{Pid: 1, Session: 1, Reserve: true})
		wantIs(t, p, proc.Process{Pid: 2, Parent: 1, User: 11, Session: 1})
		wantIs(t, p, proc.Process{Pid: 3, Parent: 2, User: 11, Session: 3})
		wantIs(t, p, proc.Process{Pid: 4, Parent: 2, User: 11, Session: 1})
	}
	wantFork(t, p, 3, false, 5, api.OK)
	wantLeads(t, p, 2, api.OK) // those that are there already stay in theirs
	wantIs(t, p, proc.Process{Pid: 2, Parent: 1, User: 11, Session: 2})
	wantIs(t, p, proc.Process{Pid: 4, Parent: 2, User: 11, Session: 1})
	wantIs(t, p, proc.Process{Pid: 5, Parent: 3, User: 11, Session: 3})
	wantLeads(t, p, 5, api.OK) // out of a session into one of its own
	wantIs(t, p, proc.Process{Pid: 5, Parent: 3, User: 11, Session: 5})
	wantFork(t, p, 1, true, 6, api.OK)
	wantLeads(t, p, 6, api.OK)
	wantIs(t, p, proc.Process{Pid: 6, Parent: 1, Session: 6, Reserve: true})
	was := state(p)
	wantLeads(t, p, 1, api.OK)
	wantState(t, "Leads(1)", p, was)
}

func TestLeadsNone(t *testing.T) {
	p := crowd(t, 3)
	wantExit(t, p, 2, 0, api.OK)
	ended(t, p, 4)
	for _, pid := range append(never, 2, 4, 5) {
		wantLeads(t, p, pid, api.ErrNone)
	}
}

// TestExit looks at what exits and what stays.
func TestExit(t *testing.T) {
	for _, status := range []int{0, 1, 7, 127, 255, 256, -1, 1 << 32, math.MinInt, math.MaxInt} {
		p := crowd(t, 2)
		wantFork(t, p, 2, false, 4, api.OK)
		wantFork(t, p, 1, true, 5, api.OK)
		wantLeads(t, p, 4, api.OK)
		wantExit(t, p, 4, status, api.OK)
		wantExit(t, p, 5, status, api.OK)
		wantIs(t, p, proc.Process{Pid: 2, Parent: 1, User: 11, Session: 1})
		wantIs(t, p, proc.Process{Pid: 3, Parent: 1, User: 12, Session: 1})
		wantIs(t, p, proc.Process{Pid: 4, Parent: 2, User: 11, Session: 4, Status: status, Dead: true})
		wantIs(t, p, proc.Process{Pid: 5, Parent: 1, Session: 1, Status: status, Dead: true, Reserve: true})
		wantPids(t, p, 1, 2, 3, 4, 5)
		wantCount(t, p, 11, 2)
		wantCount(t, p, 0, 0)
		wantKnown(t, p, 2)
		wantWait(t, p, 2, 0, 4, status, api.OK)
		wantWait(t, p, 1, 0, 5, status, api.OK)
		wantPids(t, p, 1, 2, 3)
	}
}

// TestExitChildren looks whose children there are behind an exit: live and dead ones are those of process 1.
func TestExitChildren(t *testing.T) {
	p := crowd(t, 2)
	children(t, p, 2, 3)                // 4, 5, 6
	wantFork(t, p, 5, false, 7, api.OK) // and their children
	wantFork(t, p, 6, false, 8, api.OK)
	wantFork(t, p, 3, false, 9, api.OK)
	wantExit(t, p, 5, 50, api.OK)
	wantIs(t, p, proc.Process{Pid: 7, Parent: 1, User: 11, Session: 1})
	wantExit(t, p, 2, 20, api.OK)
	wantIs(t, p, proc.Process{Pid: 2, Parent: 1, User: 11, Session: 1, Status: 20, Dead: true})
	wantIs(t, p, proc.Process{Pid: 4, Parent: 1, User: 11, Session: 1})
	wantIs(t, p, proc.Process{Pid: 5, Parent: 1, User: 11, Session: 1, Status: 50, Dead: true})
	wantIs(t, p, proc.Process{Pid: 6, Parent: 1, User: 11, Session: 1})
	wantIs(t, p, proc.Process{Pid: 8, Parent: 6, User: 11, Session: 1}) // not a child, but a child's child
	wantIs(t, p, proc.Process{Pid: 9, Parent: 3, User: 12, Session: 1})
	wantIs(t, p, proc.Process{Pid: 1, Session: 1, Reserve: true})
	wantWait(t, p, 2, 0, 0, 0, api.ErrNone)
	wantWait(t, p, 1, 0, 2, 20, api.OK)
	wantWait(t, p, 1, 0, 5, 50, api.OK)
	wantWait(t, p, 1, 0, 0, 0, api.OK)
	wantCount(t, p, 11, 4)
}

// TestExitWrong lets processes exit that are not there, are dead, or may not.
func TestExitWrong(t *testing.T) {
	p := crowd(t, 3)
	wantExit(t, p, 2, 3, api.OK)
	ended(t, p, 4)
	for _, pid := range append(never, 2, 4, 5) {
		wantExit(t, p, pid, 9, api.ErrNone)
	}
	wantExit(t, p, 1, 9, api.ErrPerm)
	wantExit(t, p, 1, 0, api.ErrPerm)
	wantWait(t, p, 1, 0, 2, 3, api.OK) // the status of the first time
}

// TestWait waits for all children of a process, which exit in any order: of the dead ones the smallest pid comes first.
func TestWait(t *testing.T) {
	for _, order := range [][]int{{3, 4, 5, 6}, {6, 5, 4, 3}, {4, 6, 3, 5}, {5, 3, 6, 4}} {
		for _, every := range []int{0, -1, -3, math.MinInt} {
			for dead := range 5 {
				p := crowd(t, 1)
				children(t, p, 2, 4)
				for _, pid := range order[:dead] {
					wantExit(t, p, pid, 10*pid, api.OK)
				}
				left := []int{1, 2, 3, 4, 5, 6}
				for _, pid := range slices.Sorted(slices.Values(order[:dead])) {
					wantWait(t, p, 2, every, pid, 10*pid, api.OK)
					left = slices.DeleteFunc(left, func(n int) bool { return n == pid })
					wantPids(t, p, left...)
					wantNone(t, p, pid)
					wantCount(t, p, 11, len(left)-1)
				}
				if dead < 4 {
					wantWait(t, p, 2, every, 0, 0, api.OK)
				} else {
					wantWait(t, p, 2, every, 0, 0, api.ErrChild)
				}
			}
		}
	}
}

// TestWaitLong waits where pids have one digit and more: they are smaller by size.
func TestWaitLong(t *testing.T) {
	p := proc.New()
	for pid := 2; pid <= 97; pid++ {
		wantFork(t, p, 1, true, pid, api.OK)
		if pid != 9 {
			ended(t, p, pid)
		}
	}
	for _, pid := range []int{98, 99, 100} {
		wantFork(t, p, 1, false, pid, api.OK)
		wantExit(t, p, pid, pid, api.OK)
	}
	wantExit(t, p, 9, 9, api.OK)
	wantPids(t, p, 1, 9, 98, 99, 100)
	for _, pid := range []int{9, 98, 99, 100} {
		wantWait(t, p, 1, 0, pid, pid, api.OK)
	}
}

// TestWaitChild waits for one child.
func TestWaitChild(t *testing.T) {
	p := crowd(t, 1)
	children(t, p, 2, 3) // 3, 4, 5
	wantWait(t, p, 2, 4, 0, 0, api.OK)
	wantExit(t, p, 3, 30, api.OK)
	wantExit(t, p, 5, 50, api.OK)
	wantWait(t, p, 2, 4, 0, 0, api.OK) // others are dead
	wantWait(t, p, 2, 5, 5, 50, api.OK)
	wantWait(t, p, 2, 5, 0, 0, api.ErrChild)
	wantExit(t, p, 4, 40, api.OK)
	wantWait(t, p, 2, 4, 4, 40, api.OK)
	wantWait(t, p, 2, 4, 0, 0, api.ErrChild)
	wantWait(t, p, 2, 3, 3, 30, api.OK)
	wantWait(t, p, 2, 3, 0, 0, api.ErrChild)
	wantPids(t, p, 1, 2)
}

// TestWaitNoChild waits for what is no child: nothing, a stranger, a child's child, oneself, a parent.
func TestWaitNoChild(t *testing.T) {
	p := crowd(t, 3)                    // 2, 3, 4
	wantFork(t, p, 2, false, 5, api.OK) // a child of 2
	wantFork(t, p, 5, false, 6, api.OK) // and one of 5
	wantExit(t, p, 3, 30, api.OK)
	wantExit(t, p, 6, 60, api.OK)
	for _, n := range []int{1, 2, 3, 4, 6, 7, 1000, 1 << 32, math.MaxInt} {
		wantWait(t, p, 2, n, 0, 0, api.ErrChild)
	}
	for _, n := range []int{1, 5, 6, 7, math.MaxInt} {
		wantWait(t, p, 1, n, 0, 0, api.ErrChild)
	}
	for _, n := range []int{-1, 0, 1, 2, 3, 4, 5, 6, 7} {
		wantWait(t, p, 4, n, 0, 0, api.ErrChild)
	}
	wantWait(t, p, 2, 5, 0, 0, api.OK)
	wantWait(t, p, 2, 0, 0, 0, api.OK) // the child's child is dead only
	wantWait(t, p, 1, 0, 3, 30, api.OK)
	wantWait(t, p, 5, 0, 6, 60, api.OK)
	wantWait(t, proc.New(), 1, 0, 0, 0, api.ErrChild)
}

// TestWaitNone waits as a process that is not there or dead: also where there is such a child, or none.
func TestWaitNone(t *testing.T) {
	p := crowd(t, 3)
	children(t, p, 2, 2) // 5, 6
	wantExit(t, p, 5, 50, api.OK)
	wantExit(t, p, 2, 20, api.OK)
	ended(t, p, 4)
	for _, pid := range append(never, 2, 4, 5, 7) {
		for _, n := range []int{-1, 0, 1, 2, 4, 5, 6, 7} {
			wantWait(t, p, pid, n, 0, 0, api.ErrNone)
		}
	}
	wantWait(t, p, 1, -1, 2, 20, api.OK)
	wantWait(t, p, 1, -1, 5, 50, api.OK)
}

// TestWaitReserve waits for a process of the reserve: its place there is free then.
func TestWaitReserve(t *testing.T) {
	p := proc.New()
	for pid := 2; pid <= reserve; pid++ {
		wantFork(t, p, 1, true, pid, api.OK)
	}
	for pid := 2; pid <= 50; pid++ {
		wantFork(t, p, 1, true, 0, api.ErrMany)
		wantExit(t, p, pid, pid, api.OK)
		wantFork(t, p, 1, true, 0, api.ErrMany)
		wantWait(t, p, 1, 0, pid, pid, api.OK)
		wantFork(t, p, 1, true, pid+4, api.OK)
	}
}

// TestGet asks for live, dead and removed processes, and whether what was answered is the caller's own.
func TestGet(t *testing.T) {
	p := crowd(t, 2)
	live := proc.Process{Pid: 2, Parent: 1, User: 11, Session: 1}
	wantIs(t, p, live)
	x, _ := p.Get(2)
	x.User, x.Session, x.Dead, x.Reserve = 77, 78, true, true
	wantIs(t, p, live)
	wantExit(t, p, 3, 5, api.OK)
	wantIs(t, p, proc.Process{Pid: 3, Parent: 1, User: 12, Session: 1, Status: 5, Dead: true})
	wantWait(t, p, 1, 3, 3, 5, api.OK)
	for _, pid := range append(never, 3, 4) {
		wantNone(t, p, pid)
	}
}

// TestAll asks for all processes, overwrites the answer and asks again.
func TestAll(t *testing.T) {
	p := crowd(t, 3)
	wantExit(t, p, 3, 5, api.OK)
	want := []proc.Process{
		{Pid: 1, Session: 1, Reserve: true},
		{Pid: 2, Parent: 1, User: 11, Session: 1},
		{Pid: 3, Parent: 1, User: 12, Session: 1, Status: 5, Dead: true},
		{Pid: 4, Parent: 1, User: 13, Session: 1},
	}
	for range 3 {
		got := p.All()
		if !slices.Equal(got, want) {
			t.Fatalf("All: %+v, not %+v", got, want)
		}
		clear(got[:cap(got)])
	}
	was := p.All()
	wantBecomes(t, p, 4, 9, api.OK)
	if !slices.Equal(was, want) {
		t.Errorf("what was answered became %+v", was)
	}
}

// TestAllOrder asks for all of many processes, of which some were removed.
func TestAllOrder(t *testing.T) {
	p := crowd(t, users)
	for pid := 2; pid <= 1+users; pid++ {
		children(t, p, pid, perUser-1)
	}
	var want []int
	for pid := 1; pid <= 49; pid++ {
		if pid > 9 && pid%4 == 0 {
			wantExit(t, p, pid, 0, api.OK)
			x, _ := p.Get(pid)
			wantWait(t, p, x.Parent, pid, pid, 0, api.OK)
			continue
		}
		want = append(want, pid)
	}
	for range 20 {
		wantPids(t, p, want...)
	}
}

// TestCount asks for the processes of users: dead ones count, those of the reserve do not, nor those that were removed.
func TestCount(t *testing.T) {
	p := proc.New()
	wantFork(t, p, 1, true, 2, api.OK)
	wantCount(t, p, 0, 0)
	wantFork(t, p, 2, false, 3, api.OK)
	wantCount(t, p, 0, 1)
	wantBecomes(t, p, 2, 65535, api.OK)
	wantCount(t, p, 65535, 1)
	wantCount(t, p, 0, 1)
	wantExit(t, p, 3, 1, api.OK)
	wantCount(t, p, 0, 1)
	wantWait(t, p, 2, 0, 3, 1, api.OK)
	wantCount(t, p, 0, 0)
	for _, uid := range append(noIDs, 1, 2, 3, 4, 65534) {
		wantCount(t, p, uid, 0)
	}
}

// TestKnown looks which steps make a user known, and that none makes one unknown.
func TestKnown(t *testing.T) {
	p := proc.New()
	wantFork(t, p, 1, true, 2, api.OK) // the reserve makes nobody known
	wantLeads(t, p, 2, api.OK)
	wantKnown(t, p, 0)
	wantFork(t, p, 1, false, 3, api.OK)
	wantKnown(t, p, 1)
	wantFork(t, p, 2, false, 4, api.OK)
	wantBecomes(t, p, 2, 0, api.OK)
	wantKnown(t, p, 1)
	wantBecomes(t, p, 3, 7, api.OK)
	wantKnown(t, p, 2)
	wantFork(t, p, 3, false, 5, api.OK)
	wantBecomes(t, p, 4, 7, api.OK)
	wantBecomes(t, p, 4, 0, api.OK)
	wantKnown(t, p, 2)
	for _, pid := range []int{2, 3, 4, 5} {
		wantExit(t, p, pid, 0, api.OK)
		wantKnown(t, p, 2)
	}
	for _, pid := range []int{2, 3, 4, 5} {
		wantWait(t, p, 1, 0, pid, 0, api.OK)
		wantKnown(t, p, 2)
	}
	wantBecomes(t, p, 1, -1, api.ErrArg)
	wantKnown(t, p, 2)
}

// TestConsequence lets seven other users and the reserve have all that they can: the eighth user forks as long as that user's count is less than the bound.
func TestConsequence(t *testing.T) {
	for own := 1; own < perUser; own++ {
		p := crowd(t, users)
		children(t, p, 2, own-1)
		for pid := 3; pid <= 1+users; pid++ {
			children(t, p, pid, perUser-1)
		}
		for range reserve - 1 {
			child(t, p, 1, true)
		}
		for n := own; n < perUser; n++ {
			wantCount(t, p, 11, n)
			child(t, p, 2, false)
		}
		wantFork(t, p, 2, false, 0, api.ErrAgain)
	}
}
