package walk

import (
	"almoner/api"
	"almoner/inode"
	"almoner/mode"
)

// Open returns the inode of a path, held once more; or a new file there, if
// one is to be made.
func Open(t *inode.Tree, cwd int, c api.Cred, s string, how api.How) (int, api.Errno) {
	if !isWant(how.Want) || !isMode(how.Mode) {
		return 0, api.ErrArg
	}
	who := callerOf(t, cwd, c)
	if !how.Make {
		n, err := who.find(s)
		if err != api.OK {
			return 0, err
		}
		return who.openOld(n, how)
	}
	at, err := who.locate(s)
	switch {
	case err != api.OK:
		return 0, err
	case !at.taken:
		return who.openNew(at, how.Mode)
	case how.Alone:
		return 0, api.ErrIs
	case at.mustDir && !isDir(at.entry):
		return 0, api.ErrDir
	}
	return who.openOld(at.entry, how)
}

// isWant reports whether a file may be opened for something.
func isWant(want int) bool {
	switch want {
	case api.Read, api.Write, api.Read + api.Write:
		return true
	}
	return false
}

func isMode(n int) bool {
	return mode.Right(n)
}

// openOld holds an inode that existed. Its rights decide.
func (c caller) openOld(n api.Info, how api.How) (int, api.Errno) {
	writes := how.Want&api.Write != 0
	switch {
	case writes && isDir(n):
		return 0, api.ErrFile
	case !c.may(n, how.Want):
		return 0, api.ErrMay
	}
	c.tree.Hold(n.Ino)
	if how.Empty && writes && n.Kind == api.KindFile {
		c.tree.Cut(n.Ino)
		clearSetUser(c.tree, n)
	}
	return n.Ino, api.OK
}

// openNew makes a file. The rights of its directory decide: its own ones, which
// may allow nothing, count from the next time on.
func (c caller) openNew(at place, bits int) (int, api.Errno) {
	switch {
	case at.mustDir:
		return 0, api.ErrFile
	case !c.may(at.dir, api.Write):
		return 0, api.ErrMay
	}
	return c.create(at, api.KindFile, bits)
}

// create makes an inode that is the caller's, and enters it. It remains held.
func (c caller) create(at place, kind, bits int) (int, api.Errno) {
	ino, err := c.tree.Make(kind, bits, c.uid, c.gid, 0)
	if err != api.OK {
		return 0, err
	}
	if err := c.tree.Enter(at.dir.Ino, at.name, ino); err != api.OK {
		c.tree.Drop(ino) // without an entry nothing else keeps it
		return 0, err
	}
	return ino, api.OK
}

// Mkdir makes a directory.
func Mkdir(t *inode.Tree, cwd int, c api.Cred, s string, mode int) api.Errno {
	if !isMode(mode) {
		return api.ErrArg
	}
	who := callerOf(t, cwd, c)
	at, err := who.locate(s)
	switch {
	case err != api.OK:
		return err
	case at.taken:
		return api.ErrIs
	case !who.may(at.dir, api.Write):
		return api.ErrMay
	}
	ino, err := who.create(at, api.KindDir, mode)
	if err != api.OK {
		return err
	}
	t.Drop(ino) // its entry keeps it
	return api.OK
}
