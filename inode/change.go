package inode

import (
	"almoner/api"
	"almoner/path"
)

// Set gives an inode another mode, owner and group.
func (t *Tree) Set(ino, mode, owner, group int) api.Errno {
	n, r := t.get(ino), rights{mode, owner, group}
	switch {
	case n == nil:
		return api.ErrNone
	case !r.valid():
		return api.ErrArg
	}
	n.rights = r
	return api.OK
}

// Put writes into the data of a file.
func (t *Tree) Put(ino, at int, s string) api.Errno {
	n, err := t.file(ino)
	switch {
	case err != api.OK:
		return err
	case at < 0 || at > len(n.data):
		return api.ErrArg
	case at+len(s) > api.MaxData:
		return api.ErrFull
	}
	end := min(at+len(s), len(n.data))
	n.data = n.data[:at] + s + n.data[end:]
	return api.OK
}

// Cut empties the data of a file.
func (t *Tree) Cut(ino int) api.Errno {
	n, err := t.file(ino)
	if err != api.OK {
		return err
	}
	n.data = ""
	return api.OK
}

// file returns the inode with a number, if it is one that has data.
func (t *Tree) file(ino int) (*inode, api.Errno) {
	n := t.get(ino)
	switch {
	case n == nil:
		return nil, api.ErrNone
	case n.isDir():
		return nil, api.ErrFile
	case n.kind == api.KindTty:
		return nil, api.ErrArg
	}
	return n, api.OK
}

// Enter adds an entry to a directory.
func (t *Tree) Enter(dir int, name string, ino int) api.Errno {
	d, n := t.get(dir), t.get(ino)
	switch {
	case d == nil || n == nil:
		return api.ErrNone
	case !d.isDir():
		return api.ErrDir
	case !path.Name(name):
		return api.ErrArg
	case d.has(name):
		return api.ErrIs
	case ino == root || n.isDir() && n.links > 0 || n.links >= api.MaxLinks:
		return api.ErrMany
	case len(d.entries) >= maxEntries:
		return api.ErrFull
	case t.contains(ino, dir):
		return api.ErrBusy
	}
	d.entries[name] = ino
	n.links++
	if n.isDir() {
		n.parent = dir
	}
	return api.OK
}

func (n *inode) has(name string) bool {
	_, ok := n.entries[name]
	return ok
}

// contains reports whether an inode is a directory or contains it at any depth.
// Going up finds it: a directory has one entry at the most, in its parent.
func (t *Tree) contains(ino, dir int) bool {
	for dir != ino {
		up := t.inodes[dir].parent
		if up == dir {
			return false
		}
		dir = up
	}
	return true
}

// Remove removes an entry of a directory.
func (t *Tree) Remove(dir int, name string) api.Errno {
	d := t.get(dir)
	switch {
	case d == nil:
		return api.ErrNone
	case !d.isDir():
		return api.ErrDir
	case !d.has(name):
		return api.ErrNone
	case t.isFilled(d.entries[name]):
		return api.ErrBusy
	}
	t.remove(d, name)
	return api.OK
}

// isFilled reports whether an inode is a directory that has entries.
func (t *Tree) isFilled(ino int) bool {
	return len(t.inodes[ino].entries) > 0
}

func (t *Tree) remove(d *inode, name string) {
	ino := d.entries[name]
	delete(d.entries, name)
	t.unlink(ino)
}

// Move moves an entry to a directory, in place of what has its new name there.
func (t *Tree) Move(dir int, name string, to int, as string) api.Errno {
	from, into := t.get(dir), t.get(to)
	switch {
	case from == nil || into == nil:
		return api.ErrNone
	case !from.isDir() || !into.isDir():
		return api.ErrDir
	case !from.has(name):
		return api.ErrNone
	case !path.Name(as):
		return api.ErrArg
	}
	ino := from.entries[name]
	switch {
	case t.contains(ino, to):
		return api.ErrBusy
	case into.entries[as] == ino:
		return api.OK
	}
	if err := t.mayMove(from, ino, into, as); err != api.OK {
		return err
	}
	if into.has(as) {
		t.remove(into, as)
	}
	delete(from.entries, name) // no unlink: the inode has its link all the time
	into.entries[as] = ino
	if n := t.inodes[ino]; n.isDir() {
		n.parent = to
	}
	return api.OK
}

// mayMove tells why an inode of one directory can't come into another, or the
// same, under a name.
func (t *Tree) mayMove(from *inode, ino int, into *inode, as string) api.Errno {
	if !into.has(as) {
		if len(into.entries) >= maxEntries && into != from {
			return api.ErrFull
		}
		return api.OK
	}
	// The old entry makes room for the new one: the directory can't be full.
	old := into.entries[as]
	switch {
	case t.inodes[old].isDir() != t.inodes[ino].isDir():
		return api.ErrFile
	case t.isFilled(old):
		return api.ErrBusy
	}
	return api.OK
}
