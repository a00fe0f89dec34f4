package cred

import (
	"math"
	"testing"

	"almoner/api"
)

const greatest = 65535

// ids are those of which every credential below is made.
func ids() []int {
	return []int{0, 1, 5, greatest}
}

// wrongIDs are numbers that are no ids.
func wrongIDs() []int {
	return []int{-1, greatest + 1, -5, -greatest, -greatest - 1, 2 * (greatest + 1), 1<<32 + 5, -1 << 32, math.MaxInt, math.MinInt}
}

// made are credentials: real, effective and saved user, real and effective group.
func made(real, eff, saved, group, effGroup int) api.Cred {
	return api.Cred{Real: real, Eff: eff, Saved: saved, Group: group, EffGroup: effGroup}
}

// allCreds are all credentials of the ids.
func allCreds() []api.Cred {
	var all []api.Cred
	for _, real := range ids() {
		for _, eff := range ids() {
			for _, saved := range ids() {
				for _, group := range ids() {
					for _, effGroup := range ids() {
						all = append(all, made(real, eff, saved, group, effGroup))
					}
				}
			}
		}
	}
	return all
}

// wrongCreds are credentials of which one id is none, for a user of that id.
func wrongCreds(uid int) []api.Cred {
	var all []api.Cred
	for _, n := range wrongIDs() {
		all = append(all,
			made(n, uid, uid, 7, 7),
			made(uid, n, uid, 7, 7),
			made(uid, uid, n, 7, 7),
			made(uid, uid, uid, n, 7),
			made(uid, uid, uid, 7, n))
	}
	return all
}

// expect tells if an answer is not the one that is wanted.
func expect(t *testing.T, what string, args []int, got api.Cred, err api.Errno, want api.Cred, wantErr api.Errno) {
	t.Helper()
	if got != want || err != wantErr {
		t.Errorf("%s %v: %+v, %v; not %+v, %v", what, args, got, err, want, wantErr)
	}
}

func TestOf(t *testing.T) {
	for _, c := range []struct {
		uid, gid int
		want     api.Cred
	}{
		{5, 7, made(5, 5, 5, 7, 7)},
		{0, 0, made(0, 0, 0, 0, 0)},
		{0, greatest, made(0, 0, 0, greatest, greatest)},
		{greatest, 0, made(greatest, greatest, greatest, 0, 0)},
		{greatest - 1, 1, made(greatest-1, greatest-1, greatest-1, 1, 1)},
	} {
		got, err := Of(c.uid, c.gid)
		expect(t, "Of", []int{c.uid, c.gid}, got, err, c.want, api.OK)
	}
}

// TestOfAll asks for every user id, and for every group id.
func TestOfAll(t *testing.T) {
	for n := -greatest - 2; n <= 2*greatest; n++ {
		wantUser, wantGroup, wantErr := made(n, n, n, 9, 9), made(9, 9, 9, n, n), api.OK
		if n < 0 || n > greatest {
			wantUser, wantGroup, wantErr = api.Cred{}, api.Cred{}, api.ErrArg
		}
		got, err := Of(n, 9)
		expect(t, "Of", []int{n, 9}, got, err, wantUser, wantErr)
		got, err = Of(9, n)
		expect(t, "Of", []int{9, n}, got, err, wantGroup, wantErr)
	}
}

func TestOfWrong(t *testing.T) {
	for _, n := range wrongIDs() {
		for _, args := range [][]int{{n, 0}, {0, n}, {n, n}, {n, 5}, {5, n}} {
			got, err := Of(args[0], args[1])
			expect(t, "Of", args, got, err, api.Cred{}, api.ErrArg)
		}
	}
}

func TestExec(t *testing.T) {
	for _, c := range []struct {
		ahead       api.Cred
		mode, owner int
		want        api.Cred
	}{
		{made(5, 5, 5, 7, 7), 0o4755, 0, made(5, 0, 0, 7, 7)},
		{made(5, 5, 5, 7, 7), 0o755, 0, made(5, 5, 5, 7, 7)},
		{made(5, 5, 5, 7, 7), 0o4755, 9, made(5, 9, 9, 7, 7)},
		{made(5, 5, 5, 7, 7), 0o4755, greatest, made(5, greatest, greatest, 7, 7)},
		{made(0, 0, 0, 0, 0), 0o4755, 9, made(0, 9, 9, 0, 0)}, // it may also take rights away
		{made(0, 0, 0, 0, 0), 0o755, 9, made(0, 0, 0, 0, 0)},
		{made(5, 9, 8, 7, 6), 0o755, 3, made(5, 9, 9, 7, 6)}, // the saved id follows in any case
		{made(5, 9, 0, 7, 6), 0o755, 0, made(5, 9, 9, 7, 6)},
		{made(5, 0, 9, 7, 6), 0o755, 3, made(5, 0, 0, 7, 6)},
		{made(5, 9, 8, 7, 6), 0o4755, 3, made(5, 3, 3, 7, 6)},
		{made(5, 9, 8, 7, 6), 0o4755, 5, made(5, 5, 5, 7, 6)},
		{made(5, 5, 5, 7, 7), 0o4000, 0, made(5, 0, 0, 7, 7)}, // no search right is asked for here
		{made(5, 5, 5, 7, 7), 0o5777, 0, made(5, 0, 0, 7, 7)},
		{made(5, 5, 5, 7, 7), 0o1777, 0, made(5, 5, 5, 7, 7)}, // sticky lends nothing
		{made(5, 5, 5, 7, 7), 0o2777, 0, made(5, 5, 5, 7, 7)}, // nor does a bit of no mode
		{made(5, 5, 5, 7, 7), 4755, 0, made(5, 5, 5, 7, 7)},   // octal 11223
		{made(5, 5, 5, 7, 7), 0, 0, made(5, 5, 5, 7, 7)},
	} {
		got, err := Exec(c.ahead, c.mode, c.owner)
		expect(t, "Exec", []int{c.mode, c.owner}, got, err, c.want, api.OK)
	}
}

// TestExecModes executes files with any number as mode.
func TestExecModes(t *testing.T) {
	lent, same := made(5, 3, 3, 7, 6), made(5, 9, 9, 7, 6)
	for bit := range 63 {
		want := same
		if bit == 11 {
			want = lent
		}
		got, err := Exec(made(5, 9, 8, 7, 6), 1<<bit, 3)
		expect(t, "Exec", []int{1 << bit, 3}, got, err, want, api.OK)
	}
	for _, mode := range []int{0o7777, 0o6755, 0o104755, -1, math.MaxInt, -0o4000} {
		got, err := Exec(made(5, 9, 8, 7, 6), mode, 3)
		expect(t, "Exec", []int{mode, 3}, got, err, lent, api.OK)
	}
	for _, mode := range []int{0o3777, 0o100755, 0o10000, -0o4001, -0o10000, math.MaxInt - 0o4000, math.MinInt} {
		got, err := Exec(made(5, 9, 8, 7, 6), mode, 3)
		expect(t, "Exec", []int{mode, 3}, got, err, same, api.OK)
	}
}

func TestExecAll(t *testing.T) {
	for _, c := range allCreds() {
		for _, owner := range ids() {
			got, err := Exec(c, 0o4711, owner)
			expect(t, "Exec", []int{0o4711, owner}, got, err, made(c.Real, owner, owner, c.Group, c.EffGroup), api.OK)
			got, err = Exec(c, 0o1711, owner)
			expect(t, "Exec", []int{0o1711, owner}, got, err, made(c.Real, c.Eff, c.Eff, c.Group, c.EffGroup), api.OK)
		}
	}
}

func TestExecWrong(t *testing.T) {
	for _, mode := range []int{0, 0o755, 0o4755, -1, 0o7777} {
		for _, uid := range []int{0, 5} {
			for _, c := range wrongCreds(uid) {
				got, err := Exec(c, mode, uid)
				expect(t, "Exec", []int{mode, uid}, got, err, api.Cred{}, api.ErrArg)
			}
			for _, owner := range wrongIDs() { // asked of a file that lends nothing, too
				got, err := Exec(made(uid, uid, uid, 7, 7), mode, owner)
				expect(t, "Exec", []int{mode, owner}, got, err, api.Cred{}, api.ErrArg)
			}
		}
	}
}

func TestSetuid(t *testing.T) {
	for _, c := range []struct {
		ahead api.Cred
		uid   int
		want  api.Cred
		err   api.Errno
	}{
		{made(5, 0, 0, 7, 7), 5, made(5, 5, 5, 7, 7), api.OK},
		{made(5, 0, 0, 7, 6), 9, made(9, 9, 9, 7, 6), api.OK},
		{made(5, 0, 4, 7, 6), 0, made(0, 0, 0, 7, 6), api.OK},
		{made(0, 0, 0, 0, 0), greatest, made(greatest, greatest, greatest, 0, 0), api.OK},
		{made(5, 5, 5, 7, 7), 0, api.Cred{}, api.ErrPerm},
		{made(5, 9, 9, 7, 6), 5, made(5, 5, 9, 7, 6), api.OK},
		{made(5, 5, 9, 7, 6), 9, made(5, 9, 9, 7, 6), api.OK},
		{made(5, 9, 8, 7, 6), 5, made(5, 5, 8, 7, 6), api.OK},
		{made(5, 9, 8, 7, 6), 8, made(5, 8, 8, 7, 6), api.OK},
		{made(5, 9, 8, 7, 6), 9, api.Cred{}, api.ErrPerm}, // the effective id alone is not enough
		{made(5, 9, 8, 7, 6), 7, api.Cred{}, api.ErrPerm}, // nor are the groups
		{made(5, 9, 8, 7, 6), 6, api.Cred{}, api.ErrPerm},
		{made(5, 9, 8, 7, 6), 0, api.Cred{}, api.ErrPerm},
		{made(0, 9, 8, 7, 6), 0, made(0, 0, 8, 7, 6), api.OK}, // the real id is 0
		{made(5, 9, 0, 7, 6), 0, made(5, 0, 0, 7, 6), api.OK}, // the saved one is
		{made(0, 9, 0, 7, 6), 5, api.Cred{}, api.ErrPerm},     // only the effective id 0 takes any id
		{made(5, 5, 5, 0, 0), 9, api.Cred{}, api.ErrPerm},     // no group does
		{made(5, 5, 5, 0, 0), 0, api.Cred{}, api.ErrPerm},
		{made(5, 5, 5, 7, 7), 5, made(5, 5, 5, 7, 7), api.OK},
		{made(5, 5, 5, 7, 7), greatest, api.Cred{}, api.ErrPerm},
	} {
		got, err := Setuid(c.ahead, c.uid)
		expect(t, "Setuid", []int{c.uid}, got, err, c.want, c.err)
	}
}

func TestSetuidAll(t *testing.T) {
	for _, c := range allCreds() {
		for _, uid := range append(ids(), 7, greatest-1) {
			var want api.Cred
			wantErr := api.ErrPerm
			if c.Eff == 0 {
				want, wantErr = made(uid, uid, uid, c.Group, c.EffGroup), api.OK
			} else if c.Real == uid {
				want, wantErr = made(c.Real, uid, c.Saved, c.Group, c.EffGroup), api.OK
			} else if c.Saved == uid {
				want, wantErr = made(c.Real, uid, c.Saved, c.Group, c.EffGroup), api.OK
			}
			got, err := Setuid(c, uid)
			expect(t, "Setuid", []int{uid}, got, err, want, wantErr)
		}
	}
}

func TestSetgid(t *testing.T) {
	for _, c := range []struct {
		ahead api.Cred
		gid   int
		want  api.Cred
		err   api.Errno
	}{
		{made(0, 0, 0, 0, 0), 7, made(0, 0, 0, 7, 7), api.OK},
		{made(5, 0, 4, 7, 6), 9, made(5, 0, 4, 9, 9), api.OK},
		{made(5, 0, 4, 7, 6), 0, made(5, 0, 4, 0, 0), api.OK},
		{made(5, 0, 4, 7, 6), 7, made(5, 0, 4, 7, 7), api.OK},
		{made(5, 0, 4, 7, 6), greatest, made(5, 0, 4, greatest, greatest), api.OK},
		{made(5, 9, 8, 7, 6), 7, made(5, 9, 8, 7, 7), api.OK},
		{made(5, 9, 8, 7, 7), 7, made(5, 9, 8, 7, 7), api.OK},
		{made(5, 9, 8, 7, 6), 6, api.Cred{}, api.ErrPerm}, // the effective group alone is not enough
		{made(5, 9, 8, 7, 6), 5, api.Cred{}, api.ErrPerm}, // nor are the users
		{made(5, 9, 8, 7, 6), 9, api.Cred{}, api.ErrPerm},
		{made(5, 9, 8, 7, 6), 8, api.Cred{}, api.ErrPerm},
		{made(5, 9, 8, 7, 6), 0, api.Cred{}, api.ErrPerm},
		{made(5, 9, 8, 0, 6), 0, made(5, 9, 8, 0, 0), api.OK},
		{made(5, 5, 5, 0, 0), 7, api.Cred{}, api.ErrPerm}, // group 0 is a group as any other
		{made(5, 5, 5, 7, 0), 0, api.Cred{}, api.ErrPerm},
		{made(0, 5, 0, 7, 6), 9, api.Cred{}, api.ErrPerm}, // the effective user id counts alone
		{made(5, 5, 5, 7, 7), greatest, api.Cred{}, api.ErrPerm},
	} {
		got, err := Setgid(c.ahead, c.gid)
		expect(t, "Setgid", []int{c.gid}, got, err, c.want, c.err)
	}
}

func TestSetgidAll(t *testing.T) {
	for _, c := range allCreds() {
		for _, gid := range append(ids(), 7, greatest-1) {
			var want api.Cred
			wantErr := api.ErrPerm
			if c.Eff == 0 {
				want, wantErr = made(c.Real, 0, c.Saved, gid, gid), api.OK
			} else if c.Group == gid {
				want, wantErr = made(c.Real, c.Eff, c.Saved, c.Group, gid), api.OK
			}
			got, err := Setgid(c, gid)
			expect(t, "Setgid", []int{gid}, got, err, want, wantErr)
		}
	}
}

// TestSetWrong asks Setuid and Setgid with numbers that are no ids, also where ErrPerm would apply.
func TestSetWrong(t *testing.T) {
	for name, set := range map[string]func(api.Cred, int) (api.Cred, api.Errno){"Setuid": Setuid, "Setgid": Setgid} {
		for _, uid := range []int{0, 5} {
			for _, c := range wrongCreds(uid) {
				for _, id := range []int{0, 5, 7, 9, c.Real, c.Saved, c.Group} {
					got, err := set(c, id)
					expect(t, name, []int{id}, got, err, api.Cred{}, api.ErrArg)
				}
			}
			for _, id := range wrongIDs() {
				got, err := set(made(uid, uid, uid, 7, 7), id)
				expect(t, name, []int{id}, got, err, api.Cred{}, api.ErrArg)
			}
		}
	}
}

// TestNoWayToZero takes every step from every user who is not 0, again and again, and never becomes 0 or another real id.
func TestNoWayToZero(t *testing.T) {
	seen := map[api.Cred]int{}
	var open []api.Cred
	reach := func(c api.Cred, err api.Errno) {
		if _, ok := seen[c]; !ok && err == api.OK {
			seen[c] = len(seen)
			open = append(open, c)
		}
	}
	for _, c := range allCreds() {
		if c.Real != 0 && c.Eff != 0 && c.Saved != 0 {
			reach(c, api.OK)
		}
	}
	for len(open) > 0 {
		c := open[0]
		open = open[1:]
		if c.Real == 0 || c.Eff == 0 || c.Saved == 0 {
			t.Fatalf("%+v is reached", c)
		}
		for _, id := range ids() {
			for _, next := range stepsOf(c, id) {
				if next.Real != c.Real || next.Group != c.Group {
					t.Errorf("%+v becomes %+v", c, next)
				}
				reach(next, api.OK)
			}
		}
	}
	if len(seen) < 3*3*3*4*4 {
		t.Errorf("%d credentials are reached", len(seen))
	}
}

// stepsOf are the credentials that follow some by one call with an id, but for files that lend the id 0.
func stepsOf(c api.Cred, id int) []api.Cred {
	var next []api.Cred
	add := func(c api.Cred, err api.Errno) {
		if err == api.OK {
			next = append(next, c)
		}
	}
	add(Setuid(c, id))
	add(Setgid(c, id))
	add(Exec(c, 0o1777, id))
	if id != 0 {
		add(Exec(c, 0o5777, id))
	}
	return next
}

// TestOwnership changes answers and looks whether equal calls still answer the same.
func TestOwnership(t *testing.T) {
	c := made(5, 0, 0, 7, 7)
	first, _ := Setuid(c, 9)
	first.Real, first.Group = 1, 1
	if c != made(5, 0, 0, 7, 7) {
		t.Errorf("the argument became %+v", c)
	}
	if again, err := Setuid(c, 9); again != made(9, 9, 9, 7, 7) || err != api.OK {
		t.Errorf("again: %+v, %v", again, err)
	}
}
