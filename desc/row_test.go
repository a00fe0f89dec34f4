package desc_test

import (
	"math"
	"slices"
	"testing"

	"almoner/api"
	"almoner/desc"
)

// long is the number of elements of a row.
const long = 20

// away are indices that no row has.
var away = []int{-1, -2, -20, -21, math.MinInt, math.MinInt + 1, -1 << 32, long, long + 1, 60, 1 << 32, math.MaxInt}

// row returns a row with these numbers at its first indices, and nothing behind them.
func row(numbers ...int) []int {
	r := make([]int, long)
	for i := range r {
		r[i] = -1
	}
	copy(r, numbers)
	return r
}

// filled returns a row that has a number of its own at each index but the ones named.
func filled(but ...int) []int {
	r := row()
	for i := range r {
		if !slices.Contains(but, i) {
			r[i] = 40 - i
		}
	}
	return r
}

// set returns a row with the number n at index fd.
func set(r []int, fd, n int) []int {
	r = slices.Clone(r)
	r[fd] = n
	return r
}

// kept tells if a row was changed by a call, or if the call's new row shares its memory (R1).
func kept(t *testing.T, r, was, got []int) {
	t.Helper()
	if !slices.Equal(r, was) {
		t.Errorf("%v was changed to %v", was, r)
	}
	for i := range got {
		got[i] = -77
	}
	if !slices.Equal(r, was) {
		t.Errorf("the new row shares memory with %v", was)
	}
	clear(got[:cap(got)])
	if !slices.Equal(r, was) {
		t.Errorf("the new row shares memory with %v", was)
	}
}

func wantPut(t *testing.T, r []int, n, from int, want []int, fd int, err api.Errno) {
	t.Helper()
	was := slices.Clone(r)
	got, gotFd, gotErr := desc.Put(r, n, from)
	if !slices.Equal(got, want) || gotFd != fd || gotErr != err {
		t.Errorf("Put(%v, %d, %d): %v, %d, %v; not %v, %d, %v", was, n, from, got, gotFd, gotErr, want, fd, err)
	}
	kept(t, r, was, got)
}

func wantAt(t *testing.T, r []int, fd, n int, ok bool) {
	t.Helper()
	was := slices.Clone(r)
	if got, gotOk := desc.At(r, fd); got != n || gotOk != ok {
		t.Errorf("At(%v, %d): %d, %v; not %d, %v", was, fd, got, gotOk, n, ok)
	}
	kept(t, r, was, nil)
}

func wantClose(t *testing.T, r []int, fd int, want []int, n int, ok bool) {
	t.Helper()
	was := slices.Clone(r)
	got, gotN, gotOk := desc.Close(r, fd)
	if !slices.Equal(got, want) || gotN != n || gotOk != ok {
		t.Errorf("Close(%v, %d): %v, %d, %v; not %v, %d, %v", was, fd, got, gotN, gotOk, want, n, ok)
	}
	kept(t, r, was, got)
}

func wantTo(t *testing.T, r []int, fd, to int, want []int, n int, err api.Errno) {
	t.Helper()
	was := slices.Clone(r)
	got, gotN, gotErr := desc.To(r, fd, to)
	if !slices.Equal(got, want) || gotN != n || gotErr != err {
		t.Errorf("To(%v, %d, %d): %v, %d, %v; not %v, %d, %v", was, fd, to, got, gotN, gotErr, want, n, err)
	}
	kept(t, r, was, got)
}

// TestRowExample takes the steps of the chapter's example.
func TestRowExample(t *testing.T) {
	wantPut(t, desc.Row(), 7, 0, row(7), 0, api.OK)
	wantTo(t, row(7), 0, 2, row(7, -1, 7), -1, api.OK)
}

func TestRow(t *testing.T) {
	r := desc.Row()
	if !slices.Equal(r, row()) {
		t.Fatalf("Row: %v", r)
	}
	clear(r)
	if next := desc.Row(); !slices.Equal(next, row()) {
		t.Errorf("Row behind a row that was overwritten: %v", next)
	}
}

// TestPut puts numbers into rows of which any two elements are free, from every index on.
func TestPut(t *testing.T) {
	for a := range long {
		for b := range long {
			r := filled(a, b)
			for from := range long {
				for _, n := range []int{0, 7, 59} {
					first := min(a, b)
					if first < from {
						first = max(a, b)
					}
					if first < from {
						wantPut(t, r, n, from, nil, 0, api.ErrMany)
					} else {
						wantPut(t, r, n, from, set(r, first, n), first, api.OK)
					}
				}
			}
		}
	}
}

// TestPutFrom puts from an index on that no row has: a negative one counts as 0, none is from the row's end on.
func TestPutFrom(t *testing.T) {
	for _, from := range away {
		if from < 0 {
			wantPut(t, row(), 3, from, row(3), 0, api.OK)
			wantPut(t, row(5, 6), 3, from, row(5, 6, 3), 2, api.OK)
			wantPut(t, filled(19), 3, from, set(filled(), 19, 3), 19, api.OK)
		} else {
			wantPut(t, row(), 3, from, nil, 0, api.ErrMany)
			wantPut(t, filled(0, 19), 3, from, nil, 0, api.ErrMany)
		}
		wantPut(t, filled(), 3, from, nil, 0, api.ErrMany)
	}
}

// TestPutFull puts into a row without a free element; one with the number 0 in it is full as well.
func TestPutFull(t *testing.T) {
	for from := range long {
		wantPut(t, filled(), 3, from, nil, 0, api.ErrMany)
		wantPut(t, make([]int, long), 3, from, nil, 0, api.ErrMany)
	}
}

// TestPutAll fills a row: the indices rise, and the numbers stay where they were put, also if one comes twice.
func TestPutAll(t *testing.T) {
	r := desc.Row()
	want := row()
	for i := range long {
		next, fd, err := desc.Put(r, i/2, 0)
		want[i] = i / 2
		if fd != i || err != api.OK || !slices.Equal(next, want) {
			t.Fatalf("Put: %v, %d, %v; not %v, %d", next, fd, err, want, i)
		}
		r = next
	}
	wantPut(t, r, 1, 0, nil, 0, api.ErrMany)
}

func TestAt(t *testing.T) {
	for i := range long {
		for _, n := range []int{0, 1, 7, 59} {
			r := set(row(), i, n)
			for fd := range long {
				if fd == i {
					wantAt(t, r, fd, n, true)
				} else {
					wantAt(t, r, fd, 0, false)
				}
			}
		}
		wantAt(t, filled(), i, 40-i, true)
		wantAt(t, filled(i), i, 0, false)
	}
	for _, fd := range away {
		wantAt(t, filled(), fd, 0, false)
		wantAt(t, row(), fd, 0, false)
	}
}

func TestClose(t *testing.T) {
	for fd := range long {
		for _, n := range []int{0, 1, 7, 59} {
			wantClose(t, set(row(), fd, n), fd, row(), n, true)
			wantClose(t, set(filled(), fd, n), fd, filled(fd), n, true)
		}
		wantClose(t, row(), fd, nil, 0, false)
		wantClose(t, filled(fd), fd, nil, 0, false)
	}
	for _, fd := range away {
		wantClose(t, filled(), fd, nil, 0, false)
		wantClose(t, row(), fd, nil, 0, false)
	}
}

// TestCloseSame closes one of two indices with the same number: the other one stays.
func TestCloseSame(t *testing.T) {
	wantClose(t, row(3, 3, 4, 3), 1, row(3, -1, 4, 3), 3, true)
	wantClose(t, row(3, -1, 4, 3), 0, row(-1, -1, 4, 3), 3, true)
}

func TestTo(t *testing.T) {
	for fd := range long {
		for to := range long {
			if fd == to {
				continue
			}
			for _, n := range []int{0, 7, 59} {
				r := set(filled(), fd, n)
				wantTo(t, r, fd, to, set(r, to, n), 40-to, api.OK)
				r = set(row(), fd, n)
				wantTo(t, r, fd, to, set(r, to, n), -1, api.OK)
				r = set(r, to, 0)
				wantTo(t, r, fd, to, set(r, to, n), 0, api.OK)
			}
		}
	}
}

// TestToSelf copies a number to where it is: the row is as it was, and no number was displaced.
func TestToSelf(t *testing.T) {
	for fd := range long {
		for _, n := range []int{0, 7, 59} {
			wantTo(t, set(row(), fd, n), fd, fd, set(row(), fd, n), -1, api.OK)
			wantTo(t, set(filled(), fd, n), fd, fd, set(filled(), fd, n), -1, api.OK)
		}
		wantTo(t, row(), fd, fd, nil, 0, api.ErrDesc)
		wantTo(t, filled(fd), fd, fd, nil, 0, api.ErrDesc)
	}
}

// TestToEqual copies a number over the same number: that one was there before.
func TestToEqual(t *testing.T) {
	wantTo(t, row(5, 5), 0, 1, row(5, 5), 5, api.OK)
	wantTo(t, row(5, 5), 1, 0, row(5, 5), 5, api.OK)
}

// TestToNone copies from where there is nothing, or to where there is no place, or both.
func TestToNone(t *testing.T) {
	for i := range long {
		for to := range long {
			wantTo(t, row(), i, to, nil, 0, api.ErrDesc)
			wantTo(t, filled(i), i, to, nil, 0, api.ErrDesc)
		}
		for _, far := range away {
			wantTo(t, filled(), i, far, nil, 0, api.ErrDesc)
			wantTo(t, filled(), far, i, nil, 0, api.ErrDesc)
			wantTo(t, row(), i, far, nil, 0, api.ErrDesc)
		}
	}
	for _, fd := range away {
		for _, to := range away {
			wantTo(t, filled(), fd, to, nil, 0, api.ErrDesc)
		}
	}
}

// TestOtherRows calls with rows of which nothing is said but that no call panics, and with numbers that no description has.
func TestOtherRows(t *testing.T) {
	others := [][]int{nil, {}, {-1}, {5}, {-2}, {-1, 3, -9}, row()[:19], append(row(), -1), append(filled(), 3, -5), make([]int, 100),
		set(row(), 3, -2), set(filled(), 0, math.MinInt), set(filled(), 19, math.MaxInt)}
	places := append([]int{0, 1, 2, 18, 19}, away...)
	for _, r := range others {
		was := slices.Clone(r)
		for _, a := range places {
			_, _ = desc.At(r, a)
			got, _, _ := desc.Close(r, a)
			kept(t, r, was, got)
			for _, b := range places {
				got, _, _ = desc.Put(r, a, b)
				kept(t, r, was, got)
				got, _, _ = desc.To(r, a, b)
				kept(t, r, was, got)
			}
		}
	}
	for _, n := range never {
		got, fd, err := desc.Put(row(4), n, 0)
		if fd != 1 || err != api.OK || !slices.Equal(got, row(4, n)) {
			t.Errorf("Put of %d: %v, %d, %v", n, got, fd, err)
		}
	}
}

// TestSpare calls with a row behind which there is spare memory: that is not written to, either.
func TestSpare(t *testing.T) {
	all := append(filled(3), 91, 92, 93)
	was := slices.Clone(all)
	r := all[:long]
	for i := range long {
		got, _, _ := desc.Put(r, 7, i)
		kept(t, all, was, got)
		got, _, _ = desc.Close(r, i)
		kept(t, all, was, got)
		got, _, _ = desc.To(r, i, 3)
		kept(t, all, was, got)
		got, _, _ = desc.To(r, i, i)
		kept(t, all, was, got)
	}
}
