package tty_test

import (
	"fmt"
	"math/rand/v2"
	"strings"
	"testing"

	"almoner/tty"
)

// line is a queued one: its bytes, or an end.
type line struct {
	text string
	end  bool
}

// model is a terminal written down as plainly as it goes: nothing is counted ahead of being asked.
type model struct {
	queue   []line
	current string
	off     bool
	shown   string
}

func (m *model) Unread() (int, int) {
	n := 0
	for _, l := range m.queue {
		if l.end {
			n++
		}
		n += len(l.text)
	}
	return n, len(m.current)
}

// fits reports whether another byte does.
func (m *model) fits() bool {
	n, k := m.Unread()
	return n+k+1 <= 1024
}

func (m *model) Type(s string) {
	for _, b := range []byte(s) {
		m.one(b)
	}
}

func (m *model) one(b byte) {
	if b == 13 {
		b = 10
	}
	if b == 127 {
		b = 8
	}
	if b == 21 {
		for m.current != "" {
			m.one(8)
		}
		return
	}
	if b == 8 && m.current != "" {
		m.current = m.current[:len(m.current)-1]
		if !m.off {
			m.shown += "\x08\x20\x08"
		}
	}
	if b == 4 && m.current != "" {
		m.queue, m.current = append(m.queue, line{text: m.current}), ""
		return
	}
	if !m.fits() {
		return
	}
	if b == 4 {
		m.queue = append(m.queue, line{end: true})
	}
	if b == 10 {
		m.queue, m.current = append(m.queue, line{text: m.current + "\x0a"}), ""
		m.shown += "\x0a"
	}
	if (b == 9 || b > 31 && b < 127) && len(m.current) < 256 {
		m.current += string([]byte{b})
		if !m.off {
			m.shown += string([]byte{b})
		}
	}
}

func (m *model) Read(n int) (string, bool) {
	if n <= 0 || len(m.queue) == 0 {
		return "", false
	}
	l := m.queue[0]
	m.queue = m.queue[1:]
	if l.end {
		return "", true
	}
	if len(l.text) > n {
		m.queue = append([]line{{text: l.text[n:]}}, m.queue...)
		return l.text[:n], true
	}
	return l.text, true
}

func (m *model) Write(s string) { m.shown += s }

func (m *model) Echo(on bool) {
	if m.off == on {
		m.queue, m.current = nil, ""
	}
	m.off = !on
}

func (m *model) Clear() {
	m.queue, m.current, m.off = nil, "", false
}

func (m *model) Screen() string { return m.shown }
func (m *model) Echoes() bool   { return !m.off }

// terminal is the terminal, and its model.
type terminal interface {
	Type(s string)
	Read(n int) (string, bool)
	Write(s string)
	Echo(on bool)
	Clear()
	Screen() string
	Unread() (int, int)
	Echoes() bool
}

// keys returns bytes to type, the more of them those that edit the fewer letters are wanted.
func keys(r *rand.Rand, n, letters int) string {
	b := make([]byte, n)
	for i := range b {
		switch k := r.IntN(100); {
		case k < letters:
			b[i] = byte(32 + r.IntN(95))
		case k < letters+2:
			b[i] = byte(r.IntN(256))
		default:
			edit := []byte{10, 10, 13, 4, 4, 8, 8, 127, 9, 21}
			b[i] = edit[r.IntN(len(edit))]
		}
	}
	return string(b)
}

// step takes one step that a seed chooses, and tells what was asked and answered. Few of the steps discard, so that what is unread grows.
func step(x terminal, seed uint64) string {
	r := rand.New(rand.NewPCG(seed, 10))
	switch r.IntN(24) {
	case 0:
		on := r.IntN(2) == 0
		x.Echo(on)
		return fmt.Sprint("Echo ", on)
	case 1:
		if r.IntN(4) == 0 {
			x.Clear()
			return "Clear"
		}
		return "nothing"
	case 2, 3:
		s := keys(r, r.IntN(9), 50)
		x.Write(s)
		return fmt.Sprintf("Write %q", s)
	case 4, 5, 6, 7:
		n := r.IntN(300) - 20
		if r.IntN(2) == 0 {
			n = r.IntN(8) - 1
		}
		s, ok := x.Read(n)
		return fmt.Sprintf("Read %d: %q %v", n, s, ok)
	default:
		s := keys(r, r.IntN(80), []int{30, 80, 96, 98}[seed/1000%4])
		x.Type(s)
		return fmt.Sprintf("Type %q", s)
	}
}

// state tells all that can be asked without changing anything.
func state(x terminal) string {
	queued, line := x.Unread()
	return fmt.Sprint(queued, " ", line, " ", x.Echoes(), " ", x.Screen())
}

// TestModel takes random steps from fixed seeds, each on a terminal and on its model.
func TestModel(t *testing.T) {
	full, long := 0, 0
	for run := range uint64(120) {
		x, m := tty.New(), &model{}
		for i := range uint64(400) {
			seed := run*1000 + i
			got, want := step(x, seed), step(m, seed)
			if got != want {
				t.Fatalf("run %d, step %d: %s; not %s", run, i, got, want)
			}
			if s, want := state(x), state(m); s != want {
				t.Fatalf("run %d, behind step %d, %s: %q; not %q", run, i, got, s, want)
			}
			queued, line := x.Unread()
			if queued+line > 1024 || line > 256 {
				t.Fatalf("run %d, behind step %d: %d and %d bytes are unread", run, i, queued, line)
			}
			if queued+line == 1024 {
				full++
			}
			if line == 256 {
				long++
			}
		}
	}
	if full < 100 || long < 100 {
		t.Errorf("the steps reached a full queue %d times, a full line %d times", full, long)
	}
}

// TestPrivate types among random steps what must not be seen: while the echo is off, capital letters, which are nowhere once it is on again, but for what was read until then (P5).
func TestPrivate(t *testing.T) {
	for run := range uint64(200) {
		r := rand.New(rand.NewPCG(run, 11))
		x := tty.New()
		on := true
		for i := range 200 {
			switch r.IntN(6) {
			case 0:
				on = !on
				x.Echo(on)
			case 1:
				if r.IntN(3) == 0 {
					on = true
					x.Clear()
				}
			case 2, 3:
				s, _ := x.Read(r.IntN(20))
				if on && strings.ToLower(s) != s || !on && strings.ToUpper(s) != s {
					t.Fatalf("run %d, step %d: with echo %v, %q is read", run, i, on, s)
				}
			default:
				s := strings.Map(func(b rune) rune {
					if b > 126 {
						return '\n'
					}
					return b
				}, keys(r, r.IntN(30), 90))
				if on {
					s = strings.ToLower(s)
				} else {
					s = strings.ToUpper(s)
				}
				x.Type(s)
			}
			if s := x.Screen(); strings.ToLower(s) != s {
				t.Fatalf("run %d, step %d: the screen shows %q", run, i, s)
			}
		}
	}
}
