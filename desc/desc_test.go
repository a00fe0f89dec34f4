package desc_test

import (
	"math"
	"testing"

	"almoner/api"
	"almoner/desc"
)

// most is the number of descriptions that a table contains at most.
const most = 60

// never are numbers that no description has, in any table.
var never = []int{-1, -2, -60, math.MinInt, math.MinInt + 1, -1 << 32, most, most + 1, 100, 1 << 32, math.MaxInt}

// file returns a description of which every field tells from which number it was made.
func file(n int) api.Desc {
	return api.Desc{Of: 1 + n%3, To: 10 + n, Want: 2 + n%5, End: n%2 == 1, At: 100 * n}
}

// wantOpen opens and tells if the answer is not the one that is wanted.
func wantOpen(t *testing.T, d *desc.Table, x api.Desc, n int, err api.Errno) {
	t.Helper()
	if gotN, gotErr := d.Open(x); gotN != n || gotErr != err {
		t.Errorf("Open(%v): %d, %v; not %d, %v", x, gotN, gotErr, n, err)
	}
}

// wantIs tells if a table has not this description under the number, held so often.
func wantIs(t *testing.T, d *desc.Table, n int, x api.Desc, held int) {
	t.Helper()
	if got, ok := d.Get(n); got != x || !ok {
		t.Errorf("Get(%d): %v, %v; not %v, true", n, got, ok, x)
	}
	if got := d.Held(n); got != held {
		t.Errorf("Held(%d): %d, not %d", n, got, held)
	}
}

// wantNone tells if a table has anything under the number.
func wantNone(t *testing.T, d *desc.Table, n int) {
	t.Helper()
	if got, ok := d.Get(n); got != (api.Desc{}) || ok {
		t.Errorf("Get(%d): %v, %v; not nothing", n, got, ok)
	}
	if got := d.Held(n); got != 0 {
		t.Errorf("Held(%d): %d, not 0", n, got)
	}
}

// wantDrop drops and tells if the answer is not the one that is wanted.
func wantDrop(t *testing.T, d *desc.Table, n int, x api.Desc, free bool) {
	t.Helper()
	if got, gotFree := d.Drop(n); got != x || gotFree != free {
		t.Errorf("Drop(%d): %v, %v; not %v, %v", n, got, gotFree, x, free)
	}
}

func wantHold(t *testing.T, d *desc.Table, n int, ok bool) {
	t.Helper()
	if got := d.Hold(n); got != ok {
		t.Errorf("Hold(%d): %v, not %v", n, got, ok)
	}
}

func wantSeek(t *testing.T, d *desc.Table, n, at int, ok bool) {
	t.Helper()
	if got := d.Seek(n, at); got != ok {
		t.Errorf("Seek(%d, %d): %v, not %v", n, at, got, ok)
	}
}

// full returns a table of so many descriptions, file(0) under 0, file(1) under 1, and so on.
func full(t *testing.T, n int) *desc.Table {
	t.Helper()
	d := desc.New()
	for i := range n {
		wantOpen(t, d, file(i), i, api.OK)
	}
	return d
}

// wantFull tells if a table is not as full made it.
func wantFull(t *testing.T, d *desc.Table, n int) {
	t.Helper()
	for i := range n {
		wantIs(t, d, i, file(i), 1)
	}
	for i := n; i < most; i++ {
		wantNone(t, d, i)
	}
}

// TestExample takes the steps of the chapter's example.
func TestExample(t *testing.T) {
	d := desc.New()
	wantOpen(t, d, file(4), 0, api.OK)
	wantHold(t, d, 0, true)
	wantDrop(t, d, 0, api.Desc{}, false)
	wantDrop(t, d, 0, file(4), true)
	wantNone(t, d, 0)
}

func TestNew(t *testing.T) {
	d := desc.New()
	if d == nil {
		t.Fatal("no table")
	}
	wantFull(t, d, 0)
	for _, n := range never {
		wantNone(t, d, n)
	}
}

// TestApart changes one table and looks at others (R3).
func TestApart(t *testing.T) {
	a, b := desc.New(), full(t, 2)
	wantOpen(t, a, file(7), 0, api.OK)
	wantHold(t, a, 0, true)
	wantSeek(t, a, 0, 5, true)
	wantFull(t, b, 2)
	wantFull(t, desc.New(), 0)
	wantDrop(t, b, 0, file(0), true)
	x := file(7)
	x.At = 5
	wantIs(t, a, 0, x, 2)
}

// TestOpen opens as many as there may be, of every kind.
func TestOpen(t *testing.T) {
	d := desc.New()
	for n := range most {
		wantNone(t, d, n)
		wantOpen(t, d, file(n), n, api.OK)
		wantFull(t, d, n+1)
	}
}

// TestOpenFields stores whatever the other fields are: Open asks for Of alone.
func TestOpenFields(t *testing.T) {
	far := []int{0, 1, -1, 7, 4096, math.MaxInt, math.MinInt}
	for _, of := range []int{api.OfFile, api.OfTty, api.OfPipe} {
		for _, to := range far {
			for _, want := range far {
				for _, at := range far {
					for _, end := range []bool{false, true} {
						x := api.Desc{Of: of, To: to, Want: want, End: end, At: at}
						d := desc.New()
						wantOpen(t, d, x, 0, api.OK)
						wantIs(t, d, 0, x, 1)
						wantDrop(t, d, 0, x, true)
					}
				}
			}
		}
	}
}

// TestOpenSame opens one description twice: these are two, of which each has its place and its count.
func TestOpenSame(t *testing.T) {
	d := desc.New()
	wantOpen(t, d, file(3), 0, api.OK)
	wantOpen(t, d, file(3), 1, api.OK)
	wantHold(t, d, 1, true)
	wantSeek(t, d, 0, 8, true)
	x := file(3)
	x.At = 8
	wantIs(t, d, 0, x, 1)
	wantIs(t, d, 1, file(3), 2)
	wantDrop(t, d, 0, x, true)
	wantIs(t, d, 1, file(3), 2)
}

// TestOpenArg opens what no description is of: ErrArg, whether there is room or not.
func TestOpenArg(t *testing.T) {
	for _, n := range []int{0, 1, most - 1, most} {
		d := full(t, n)
		for _, of := range []int{0, 4, 5, -1, -2, -3, 257, 1<<32 + 1, math.MaxInt, math.MinInt, math.MinInt + 1} {
			x := file(n)
			x.Of = of
			wantOpen(t, d, x, 0, api.ErrArg)
			wantOpen(t, d, api.Desc{Of: of}, 0, api.ErrArg)
			wantFull(t, d, n)
		}
	}
}

// TestOpenMany opens one more than there may be, of every kind.
func TestOpenMany(t *testing.T) {
	d := full(t, most)
	for n := range 6 {
		wantOpen(t, d, file(n), 0, api.ErrMany)
		wantFull(t, d, most)
	}
	wantDrop(t, d, 59, file(59), true)
	wantOpen(t, d, file(99), 59, api.OK)
	wantIs(t, d, 59, file(99), 1)
	wantOpen(t, d, file(1), 0, api.ErrMany)
}

// TestOpenSmallest frees any two numbers of a full table: they are given again, the smaller one first.
func TestOpenSmallest(t *testing.T) {
	for a := range most {
		for b := range a {
			d := full(t, most)
			wantDrop(t, d, b, file(b), true)
			wantDrop(t, d, a, file(a), true)
			wantOpen(t, d, file(70), b, api.OK)
			wantOpen(t, d, file(80), a, api.OK)
			wantIs(t, d, b, file(70), 1)
			wantIs(t, d, a, file(80), 1)
			wantOpen(t, d, file(90), 0, api.ErrMany)
		}
	}
}

// TestOpenAfresh opens under a number that was held often and sought: nothing of that is left.
func TestOpenAfresh(t *testing.T) {
	d := full(t, 3)
	for range 4 {
		wantHold(t, d, 1, true)
	}
	wantSeek(t, d, 1, 77, true)
	for range 4 {
		wantDrop(t, d, 1, api.Desc{}, false)
	}
	x := file(1)
	x.At = 77
	wantDrop(t, d, 1, x, true)
	wantOpen(t, d, api.Desc{Of: api.OfPipe}, 1, api.OK)
	wantIs(t, d, 1, api.Desc{Of: api.OfPipe}, 1)
	wantDrop(t, d, 1, api.Desc{Of: api.OfPipe}, true)
}

// TestNoSuch asks for numbers under which there is nothing: nothing is answered, and nothing changes.
func TestNoSuch(t *testing.T) {
	for _, n := range []int{0, 1, 5, most - 1, most} {
		d := full(t, n)
		for _, none := range append([]int{n}, never...) {
			if none == n && n == most {
				continue
			}
			wantNone(t, d, none)
			wantHold(t, d, none, false)
			for _, at := range []int{0, 1, -1, math.MaxInt, math.MinInt} {
				wantSeek(t, d, none, at, false)
			}
			wantDrop(t, d, none, api.Desc{}, false)
			wantNone(t, d, none)
			wantFull(t, d, n)
		}
	}
}

// TestFreed asks for a number that was free, taken and free again: it is as if it had never been taken.
func TestFreed(t *testing.T) {
	for n := range most {
		d := full(t, most)
		wantDrop(t, d, n, file(n), true)
		wantNone(t, d, n)
		wantHold(t, d, n, false)
		wantSeek(t, d, n, 3, false)
		wantDrop(t, d, n, api.Desc{}, false)
		wantDrop(t, d, n, api.Desc{}, false)
		wantNone(t, d, n)
		wantOpen(t, d, file(n), n, api.OK)
		wantFull(t, d, most)
	}
}

// TestGetCopy overwrites what was returned and what was handed in (R1).
func TestGetCopy(t *testing.T) {
	d := desc.New()
	x := file(2)
	wantOpen(t, d, x, 0, api.OK)
	x.At, x.To = 9, 9
	got, _ := d.Get(0)
	got.At, got.Of = 8, 8
	wantIs(t, d, 0, file(2), 1)
}

func TestSeek(t *testing.T) {
	d := full(t, most)
	for n := range most {
		x := file(n)
		for _, at := range []int{0, 1, 4095, 4096, 4097, 1 << 32, math.MaxInt, 5, 5, 0} {
			wantSeek(t, d, n, at, true)
			x.At = at
			wantIs(t, d, n, x, 1)
		}
		wantSeek(t, d, n, file(n).At, true)
		wantFull(t, d, most)
	}
}

// TestSeekNegative seeks ahead of the beginning: the place stays.
func TestSeekNegative(t *testing.T) {
	d := full(t, 4)
	for n := range 4 {
		for _, at := range []int{-1, -2, -4096, -1 << 32, math.MinInt, math.MinInt + 1} {
			wantSeek(t, d, n, at, false)
		}
	}
	wantFull(t, d, 4)
	wantOpen(t, d, api.Desc{Of: api.OfFile, At: -5}, 4, api.OK)
	wantSeek(t, d, 4, -6, false)
	wantIs(t, d, 4, api.Desc{Of: api.OfFile, At: -5}, 1)
}

// TestSeekShared seeks a description that is held several times: it has one place.
func TestSeekShared(t *testing.T) {
	d := full(t, 2)
	wantHold(t, d, 1, true)
	wantSeek(t, d, 1, 42, true)
	x := file(1)
	x.At = 42
	wantIs(t, d, 1, x, 2)
	wantDrop(t, d, 1, api.Desc{}, false)
	wantIs(t, d, 1, x, 1)
	wantDrop(t, d, 1, x, true)
}

// TestHoldDrop holds and drops: a description is free if it was dropped as often as it was opened and held, and not before.
func TestHoldDrop(t *testing.T) {
	for n := range most {
		for _, holds := range []int{0, 1, 2, 3, 60, 300} {
			d := full(t, most)
			for i := range holds {
				wantHold(t, d, n, true)
				wantIs(t, d, n, file(n), 2+i)
			}
			for i := range holds {
				wantDrop(t, d, n, api.Desc{}, false)
				wantIs(t, d, n, file(n), holds-i)
				wantOpen(t, d, file(5), 0, api.ErrMany)
			}
			wantFull(t, d, most)
			wantDrop(t, d, n, file(n), true)
			wantNone(t, d, n)
			wantOpen(t, d, file(n), n, api.OK)
			wantFull(t, d, most)
		}
	}
}

// TestHoldBetween holds, drops and holds again.
func TestHoldBetween(t *testing.T) {
	d := full(t, 2)
	wantHold(t, d, 0, true)
	wantDrop(t, d, 0, api.Desc{}, false)
	wantHold(t, d, 0, true)
	wantHold(t, d, 0, true)
	wantDrop(t, d, 0, api.Desc{}, false)
	wantDrop(t, d, 0, api.Desc{}, false)
	wantDrop(t, d, 0, file(0), true)
	wantNone(t, d, 0)
	wantIs(t, d, 1, file(1), 1)
}

func TestHeld(t *testing.T) {
	d := full(t, 3)
	for i := range 5 {
		for range 3 { // asking changes nothing
			if a, b, c := d.Held(0), d.Held(1), d.Held(2); a != 1 || b != 1+i || c != 1 {
				t.Fatalf("Held: %d, %d, %d; not 1, %d, 1", a, b, c, 1+i)
			}
		}
		wantHold(t, d, 1, true)
	}
}
