package desc_test

import (
	"fmt"
	"math/rand/v2"
	"slices"
	"testing"

	"almoner/api"
	"almoner/desc"
)

// model is a table written down as plainly as it goes: a map of what is there, and of how often each number was opened or held, and dropped.
type model struct {
	is        map[int]api.Desc
	got, lost map[int]int
}

func newModel() *model {
	return &model{map[int]api.Desc{}, map[int]int{}, map[int]int{}}
}

func (m *model) Open(d api.Desc) (int, api.Errno) {
	if d.Of != 1 && d.Of != 2 && d.Of != 3 {
		return 0, api.ErrArg
	}
	if len(m.is) == 60 {
		return 0, api.ErrMany
	}
	n := 0
	for m.Held(n) > 0 {
		n++
	}
	m.is[n] = d
	m.got[n]++
	return n, api.OK
}

func (m *model) Get(n int) (api.Desc, bool) {
	d, ok := m.is[n]
	return d, ok
}

func (m *model) Seek(n, at int) bool {
	d, ok := m.is[n]
	if !ok || at < 0 {
		return false
	}
	d.At = at
	m.is[n] = d
	return true
}

func (m *model) Hold(n int) bool {
	if _, ok := m.is[n]; !ok {
		return false
	}
	m.got[n]++
	return true
}

func (m *model) Drop(n int) (api.Desc, bool) {
	d, ok := m.is[n]
	if !ok {
		return api.Desc{}, false
	}
	m.lost[n]++
	if m.lost[n] < m.got[n] {
		return api.Desc{}, false
	}
	delete(m.is, n)
	return d, true
}

func (m *model) Held(n int) int { return m.got[n] - m.lost[n] }

// tabler is the table, and its model.
type tabler interface {
	Open(d api.Desc) (int, api.Errno)
	Get(n int) (api.Desc, bool)
	Seek(n, at int) bool
	Hold(n int) bool
	Drop(n int) (api.Desc, bool)
	Held(n int) int
}

// step takes one step that a seed chooses, and tells what was asked and answered; a greater part of the steps opens if `opens` is greater.
func step(d tabler, seed uint64, opens int) string {
	r := rand.New(rand.NewPCG(seed, 9))
	n := r.IntN(64) - 2
	switch c := r.IntN(20); {
	case c < opens:
		x := api.Desc{Of: r.IntN(3) + 1, To: r.IntN(9), Want: r.IntN(8), End: r.IntN(2) == 0, At: r.IntN(50)}
		if r.IntN(12) == 0 {
			x.Of = r.IntN(12) - 4
		}
		got, err := d.Open(x)
		return fmt.Sprint("Open ", x, ": ", got, err)
	case c < 9:
		got, ok := d.Get(n)
		return fmt.Sprint("Get ", n, ": ", got, ok, d.Held(n))
	case c < 11:
		at := r.IntN(40) - 8
		return fmt.Sprint("Seek ", n, at, ": ", d.Seek(n, at))
	case c < 14:
		return fmt.Sprint("Hold ", n, ": ", d.Hold(n))
	default:
		got, ok := d.Drop(n)
		return fmt.Sprint("Drop ", n, ": ", got, ok)
	}
}

// TestModel takes random steps from fixed seeds, each on a table and on its model; some runs fill the table, others empty it.
func TestModel(t *testing.T) {
	fullest := 0
	for run := range uint64(60) {
		d, m := desc.New(), newModel()
		for i := range uint64(600) {
			seed := run*1000 + i
			opens := 2 + int(run)%7
			got, want := step(d, seed, opens), step(m, seed, opens)
			if got != want {
				t.Fatalf("run %d, step %d: %s; not %s", run, i, got, want)
			}
			for n := -2; n < 63; n++ {
				x, ok := d.Get(n)
				wantX, wantOk := m.Get(n)
				if x != wantX || ok != wantOk || d.Held(n) != m.Held(n) {
					t.Fatalf("run %d, behind step %d, %s: number %d: %v, %v, held %d", run, i, got, n, x, ok, d.Held(n))
				}
			}
			fullest = max(fullest, len(m.is))
		}
	}
	if fullest != 60 {
		t.Errorf("no run filled the table: at most %d", fullest)
	}
}

// cells is a row written down as plainly as it goes: a map of the numbers that are there.
type cells map[int]int

func (c cells) row() []int {
	r := make([]int, 20)
	for i := range r {
		if n, ok := c[i]; ok {
			r[i] = n
		} else {
			r[i] = -1
		}
	}
	return r
}

func (c cells) put(n, from int) (int, api.Errno) {
	for i := range 20 {
		if _, ok := c[i]; !ok && i >= from {
			c[i] = n
			return i, api.OK
		}
	}
	return 0, api.ErrMany
}

func (c cells) close(fd int) (int, bool) {
	n, ok := c[fd]
	delete(c, fd)
	return n, ok
}

func (c cells) to(fd, to int) (int, api.Errno) {
	n, ok := c[fd]
	if !ok || to < 0 || to > 19 {
		return 0, api.ErrDesc
	}
	was, ok := c[to]
	if !ok || fd == to {
		was = -1
	}
	c[to] = n
	return was, api.OK
}

// TestRowModel takes random steps from fixed seeds, each on a row and on its model; every row that there was stays as it was.
func TestRowModel(t *testing.T) {
	for run := range uint64(60) {
		r := rand.New(rand.NewPCG(run, 10))
		now, c := desc.Row(), cells{}
		var rows, copies [][]int
		for i := range 400 {
			n, a, b := r.IntN(60), r.IntN(24)-2, r.IntN(24)-2
			var next []int
			var told, want string
			switch r.IntN(5) {
			case 0, 1:
				got, fd, err := desc.Put(now, n, a)
				wantFd, wantErr := c.put(n, a)
				next, told, want = got, fmt.Sprint("Put ", n, a, ": ", fd, err), fmt.Sprint("Put ", n, a, ": ", wantFd, wantErr)
			case 2:
				got, m, ok := desc.Close(now, a)
				wantM, wantOk := c.close(a)
				next, told, want = got, fmt.Sprint("Close ", a, ": ", m, ok), fmt.Sprint("Close ", a, ": ", wantM, wantOk)
			case 3:
				got, was, err := desc.To(now, a, b)
				wantWas, wantErr := c.to(a, b)
				next, told, want = got, fmt.Sprint("To ", a, b, ": ", was, err), fmt.Sprint("To ", a, b, ": ", wantWas, wantErr)
			default:
				got, ok := desc.At(now, a)
				wantN, wantOk := c[a]
				told, want = fmt.Sprint("At ", a, ": ", got, ok), fmt.Sprint("At ", a, ": ", wantN, wantOk)
			}
			if told != want {
				t.Fatalf("run %d, step %d, on %v: %s; not %s", run, i, now, told, want)
			}
			if next != nil {
				now = next
			}
			if !slices.Equal(now, c.row()) {
				t.Fatalf("run %d, behind step %d, %s: %v; not %v", run, i, told, now, c.row())
			}
			rows, copies = append(rows, now), append(copies, slices.Clone(now))
		}
		for i := range rows {
			if !slices.Equal(rows[i], copies[i]) {
				t.Fatalf("run %d: the row behind step %d was changed later", run, i)
			}
		}
	}
}
