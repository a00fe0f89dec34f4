package pipe_test

import (
	"fmt"
	"math/rand/v2"
	"strings"
	"testing"

	"almoner/api"
	"almoner/pipe"
)

// model is a pipe written down as plainly as it goes: all that was ever written, and all that was ever read.
type model struct {
	readers, writers int
	in, out          string
}

func (m *model) held() string { return m.in[len(m.out):] }

func (m *model) Join(writes bool) {
	if writes {
		m.writers++
	} else {
		m.readers++
	}
}

func (m *model) Leave(writes bool) bool {
	if writes && m.writers > 0 {
		m.writers--
		return true
	}
	if !writes && m.readers > 0 {
		m.readers--
		return true
	}
	return false
}

func (m *model) Write(s string) (int, api.Errno) {
	if m.readers == 0 {
		return 0, api.ErrPipe
	}
	n := 0
	for n < len(s) && len(m.held()) < 128 {
		m.in += s[n : n+1]
		n++
	}
	return n, api.OK
}

func (m *model) Read(n int) (string, bool) {
	s := ""
	for len(s) < n && m.held() != "" {
		s += m.held()[:1]
		m.out += m.held()[:1]
	}
	return s, m.held() == "" && m.writers == 0
}

func (m *model) State() (int, int, int) { return m.readers, m.writers, len(m.held()) }

// piper is the pipe, and its model.
type piper interface {
	Join(writes bool)
	Leave(writes bool) bool
	Write(s string) (int, api.Errno)
	Read(n int) (string, bool)
	State() (int, int, int)
}

// step takes one step that a seed chooses, and tells what was asked and answered.
func step(p piper, seed uint64) string {
	r := rand.New(rand.NewPCG(seed, 8))
	writes := r.IntN(2) == 0
	n := r.IntN(12) - 2
	if r.IntN(4) == 0 {
		n = r.IntN(300) - 20
	}
	switch r.IntN(20) {
	case 0, 1:
		p.Join(writes)
		return fmt.Sprint("Join ", writes)
	case 2, 3:
		return fmt.Sprint("Leave ", writes, p.Leave(writes))
	case 4, 5, 6, 7, 8, 9, 10, 11:
		b := make([]byte, max(0, n))
		for i := range b {
			b[i] = byte(r.IntN(256))
		}
		wrote, err := p.Write(string(b))
		return fmt.Sprintf("Write %q: %d %v", b, wrote, err)
	default:
		s, end := p.Read(n)
		return fmt.Sprintf("Read %d: %q %v", n, s, end)
	}
}

// TestModel takes random steps from fixed seeds, each on a pipe and on its model.
func TestModel(t *testing.T) {
	for run := range uint64(60) {
		p, m := pipe.New(), &model{readers: 1, writers: 1}
		for i := range uint64(400) {
			seed := run*1000 + i
			got, want := step(p, seed), step(m, seed)
			if got != want {
				t.Fatalf("run %d, step %d: %s; not %s", run, i, got, want)
			}
			r, w, b := p.State()
			if wantR, wantW, wantB := m.State(); r != wantR || w != wantW || b != wantB {
				t.Fatalf("run %d, behind step %d, %s: State: %d, %d, %d; not %d, %d, %d", run, i, got, r, w, b, wantR, wantW, wantB)
			}
			if b > 128 {
				t.Fatalf("run %d, behind step %d: %d bytes", run, i, b)
			}
		}
	}
}

// TestPrefix collects what is written and read: the bytes that are read are a prefix of those that were written, and in the end all.
func TestPrefix(t *testing.T) {
	for run := range uint64(40) {
		r := rand.New(rand.NewPCG(run, 9))
		p := pipe.New()
		in, out := "", ""
		for range 500 {
			s := text(r.IntN(200), r.IntN(150))
			n, err := p.Write(s)
			if err != api.OK {
				t.Fatalf("run %d: %v", run, err)
			}
			in += s[:n]
			got, _ := p.Read(r.IntN(150) - 5)
			out += got
			if !strings.HasPrefix(in, out) {
				t.Fatalf("run %d: behind %d bytes, %q was read", run, len(out)-len(got), got)
			}
		}
		p.Leave(true)
		got, end := p.Read(128)
		if in != out+got || !end {
			t.Fatalf("run %d: in the end %q, %v, of %d bytes that are left", run, got, end, len(in)-len(out))
		}
	}
}
