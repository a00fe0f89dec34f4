package walk_test

import (
	"fmt"
	"maps"
	"math/rand/v2"
	"testing"

	"almoner/api"
	"almoner/inode"
)

// looked is an inode with all that it contains.
type looked struct {
	api.Info
	data    string
	entries map[string]int
}

// look is a tree as it is now.
func look(r *inode.Tree) map[int]looked {
	all := map[int]looked{}
	for ino := 1; ino <= api.MaxInodes; ino++ {
		info, ok := r.Stat(ino)
		if !ok {
			continue
		}
		entries := map[string]int{}
		for _, name := range r.Names(ino) {
			entries[name], _ = r.Look(ino, name)
		}
		all[ino] = looked{info, r.Data(ino), entries}
	}
	return all
}

// expectPermitted looks whether what a step has changed is permitted to its caller, by the rights that were there ahead of it.
func expectPermitted(t *testing.T, s step, was, is map[int]looked, got answer) {
	t.Helper()
	if s.call == "Drop" {
		return
	}
	for ino, old := range was {
		now, still := is[ino]
		if !still {
			continue // an entry went, which is looked for in its directory
		}
		changed := !maps.Equal(old.entries, now.entries) || old.data != now.data || old.Mode != now.Mode || old.Owner != now.Owner || old.Group != now.Group
		if changed && (got.err != api.OK || s.call == "Find" || s.call == "Parent") {
			t.Errorf("%v: %v, and %d changed", s, got.err, ino)
		}
		if !maps.Equal(old.entries, now.entries) {
			expectMayEnter(t, s, was, old, now)
		}
		if old.data != now.data && s.call != "Put" && !has(old.Info, s.who, api.Write) {
			t.Errorf("%v: the data of %d changed", s, ino)
		}
		lent := old.Mode&^0o4000 == now.Mode && (old.data == "" || old.data != now.data) || s.call == "Put"
		if old.Mode != now.Mode && s.who.Eff != 0 && s.who.Eff != old.Owner && !lent {
			t.Errorf("%v: the mode of %d became %o", s, ino, now.Mode)
		}
		if (old.Owner != now.Owner || old.Mode&0o4000 < now.Mode&0o4000 && s.who.Eff != old.Owner) && s.who.Eff != 0 {
			t.Errorf("%v: %+v became %+v", s, old.Info, now.Info)
		}
	}
}

// expectMayEnter looks whether a caller was permitted to change the entries of a directory.
func expectMayEnter(t *testing.T, s step, was map[int]looked, old, now looked) {
	t.Helper()
	if !has(old.Info, s.who, api.Write+api.Search) {
		t.Errorf("%v: the entries of %d, %v, became %v", s, old.Ino, old.entries, now.entries)
	}
	for name, ino := range old.entries {
		sticks := old.Mode&0o1000 != 0 && s.who.Eff != 0 && s.who.Eff != old.Owner && s.who.Eff != was[ino].Owner
		if now.entries[name] != ino && sticks {
			t.Errorf("%v: the entry %s of %d went", s, name, old.Ino)
		}
	}
}

// TestPrivate takes the same random steps, those of users who are neither 5 nor 0, in two trees in which a directory of 5 with
// mode 700 contains other things: they change none of these, and can't be told from each other by any answer.
func TestPrivate(t *testing.T) {
	const public = "/a d 777 8 9\n/a/a d 777 5 7\n/a/b - 4777 5 7 data\n/b d 777 5 7\n/b/a - 666 6 7 x\n/a/c d 700 5 7\n"
	const one = "/a/c/a - 4777 5 7 secret\n/a/c/b d 777 5 7\n/a/c/b/a - 666 6 7 x\n/a/c/d c 666 8 9 1\n"
	const two = "/a/c/d d 1777 8 9\n/a/c/d/a - 0 6 7 nothing\n/a/c/d/c d 777 8 9\n/a/c/d/c/b - 777 6 7 y\n"
	for run := range 200 {
		w := &stroller{rand.New(rand.NewPCG(uint64(run), 1)), []int{6, 8}, []int{7, 9}, []int{0o777, 0o1777, 0o4777, 0o700}, 20}
		r, q := grow(t, public+one), grow(t, public+two)
		r.Set(1, 0o777, 0, 0)
		q.Set(1, 0o777, 0, 0)
		private, first := at(r, "/a/c"), at(r, "/a/c/a")
		oneWas, twoWas := hidden(r, private, first), hidden(q, private, first)
		for range 200 {
			s := w.step()
			if s.cwd >= private && s.cwd < first+4 {
				s.cwd = 1 // none of them has ever been within
			}
			if got, other := s.ofWalk(r), s.ofWalk(q); got != other {
				t.Fatalf("run %d: %v: %+v and %+v", run, s, got, other)
			}
			if hidden(r, private, first) != oneWas || hidden(q, private, first) != twoWas {
				t.Fatalf("run %d: %v changed what is private", run, s)
			}
		}
	}
}

// hidden are the names of a private directory, and the four inodes below it.
func hidden(r *inode.Tree, private, first int) string {
	all := look(r)
	text := fmt.Sprint(all[private].entries)
	for ino := first; ino < first+4; ino++ {
		text += fmt.Sprintf(" %+v", all[ino])
	}
	return text
}
