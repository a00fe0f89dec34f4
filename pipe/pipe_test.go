package pipe_test

import (
	"math"
	"strings"
	"testing"

	"almoner/api"
	"almoner/pipe"
)

// most is the number of bytes that a pipe holds.
const most = 128

// text returns n bytes of which any two neighbours differ, and which show where they come from.
func text(from, n int) string {
	b := make([]byte, n)
	for i := range b {
		b[i] = byte((from + i) * 7)
	}
	return string(b)
}

// wantWrite writes and tells if the answer is not the one that is wanted.
func wantWrite(t *testing.T, p *pipe.Pipe, s string, n int, err api.Errno) {
	t.Helper()
	if gotN, gotErr := p.Write(s); gotN != n || gotErr != err {
		t.Errorf("Write of %d bytes: %d, %v; not %d, %v", len(s), gotN, gotErr, n, err)
	}
}

// wantRead reads and tells if the answer is not the one that is wanted.
func wantRead(t *testing.T, p *pipe.Pipe, n int, s string, end bool) {
	t.Helper()
	if gotS, gotEnd := p.Read(n); gotS != s || gotEnd != end {
		t.Errorf("Read(%d): %q, %v; not %q, %v", n, gotS, gotEnd, s, end)
	}
}

func wantLeave(t *testing.T, p *pipe.Pipe, writes, ok bool) {
	t.Helper()
	if got := p.Leave(writes); got != ok {
		t.Errorf("Leave(%v): %v, not %v", writes, got, ok)
	}
}

func wantState(t *testing.T, p *pipe.Pipe, readers, writers, bytes int) {
	t.Helper()
	if r, w, b := p.State(); r != readers || w != writers || b != bytes {
		t.Errorf("State: %d, %d, %d; not %d, %d, %d", r, w, b, readers, writers, bytes)
	}
}

// with returns a pipe of so many readers and writers that contains s.
func with(t *testing.T, readers, writers int, s string) *pipe.Pipe {
	t.Helper()
	p := pipe.New()
	wantWrite(t, p, s, len(s), api.OK)
	for range readers {
		p.Join(false)
	}
	for range writers {
		p.Join(true)
	}
	p.Leave(false)
	p.Leave(true)
	wantState(t, p, readers, writers, len(s))
	return p
}

// TestExample takes the steps of the chapter's example.
func TestExample(t *testing.T) {
	p := pipe.New()
	wantWrite(t, p, "abc", 3, api.OK)
	wantRead(t, p, 2, "ab", false)
	wantLeave(t, p, true, true)
	wantRead(t, p, 5, "c", true)
	wantLeave(t, p, false, true)
	wantWrite(t, p, "x", 0, api.ErrPipe)
	wantState(t, p, 0, 0, 0)
}

func TestNew(t *testing.T) {
	p := pipe.New()
	if p == nil {
		t.Fatal("no pipe")
	}
	wantState(t, p, 1, 1, 0)
	wantRead(t, p, most, "", false)
	wantState(t, p, 1, 1, 0)
}

// TestApart changes one pipe and looks at others (R3).
func TestApart(t *testing.T) {
	a, b := pipe.New(), pipe.New()
	wantWrite(t, a, "abc", 3, api.OK)
	a.Join(true)
	a.Join(false)
	a.Join(false)
	wantState(t, b, 1, 1, 0)
	wantWrite(t, b, "de", 2, api.OK)
	wantLeave(t, b, true, true)
	wantRead(t, a, 9, "abc", false)
	wantState(t, a, 3, 2, 0)
	wantRead(t, b, 9, "de", true)
	wantState(t, pipe.New(), 1, 1, 0)
}

func TestJoin(t *testing.T) {
	p := pipe.New()
	for i := range 300 { // nothing bounds how many join
		wantState(t, p, 1+i, 1, 0)
		p.Join(false)
	}
	for i := range 200 {
		wantState(t, p, 301, 1+i, 0)
		p.Join(true)
	}
	wantState(t, p, 301, 201, 0)
}

// TestJoinKeeps joins a pipe that contains something: the bytes stay.
func TestJoinKeeps(t *testing.T) {
	for _, n := range []int{0, 1, 100, most} {
		p := with(t, 1, 1, text(5, n))
		p.Join(false)
		p.Join(true)
		p.Join(true)
		wantState(t, p, 2, 3, n)
		wantRead(t, p, most, text(5, n), false)
	}
}

// TestJoinAgain joins a side that everybody has left.
func TestJoinAgain(t *testing.T) {
	p := with(t, 0, 1, "ab")
	wantWrite(t, p, "c", 0, api.ErrPipe)
	p.Join(true) // a writer does not read
	wantWrite(t, p, "c", 0, api.ErrPipe)
	p.Join(false)
	wantState(t, p, 1, 2, 2)
	wantWrite(t, p, "c", 1, api.OK)
	wantRead(t, p, 9, "abc", false)

	p = with(t, 1, 0, "")
	wantRead(t, p, 9, "", true)
	p.Join(false) // nor does a reader write
	wantRead(t, p, 9, "", true)
	p.Join(true)
	wantState(t, p, 2, 1, 0)
	wantRead(t, p, 9, "", false)
	wantWrite(t, p, "d", 1, api.OK)
	wantRead(t, p, 9, "d", false)
}

func TestLeave(t *testing.T) {
	p := with(t, 3, 2, "ab")
	wantLeave(t, p, false, true)
	wantState(t, p, 2, 2, 2)
	wantLeave(t, p, true, true)
	wantState(t, p, 2, 1, 2)
	wantLeave(t, p, true, true)
	wantState(t, p, 2, 0, 2)
	wantLeave(t, p, false, true)
	wantState(t, p, 1, 0, 2)
	wantLeave(t, p, false, true)
	wantState(t, p, 0, 0, 2)
}

// TestLeaveNone asks a side on which nobody is: whatever is on the other one, nothing changes.
func TestLeaveNone(t *testing.T) {
	for others := range 3 {
		for _, n := range []int{0, 2, most} {
			p := with(t, 0, others, text(0, n))
			wantLeave(t, p, false, false)
			wantLeave(t, p, false, false)
			wantState(t, p, 0, others, n)
			wantRead(t, p, most, text(0, n), others == 0)
			p.Join(false) // the count has not sunk below none
			wantState(t, p, 1, others, 0)

			p = with(t, others, 0, text(0, n))
			wantLeave(t, p, true, false)
			wantLeave(t, p, true, false)
			wantState(t, p, others, 0, n)
			wantRead(t, p, most, text(0, n), true)
			p.Join(true)
			wantState(t, p, others, 1, 0)
		}
	}
}

func TestWrite(t *testing.T) {
	for _, held := range []int{0, 1, 2, 63, 64, 100, 126, 127, 128} {
		for _, n := range []int{0, 1, 2, 27, 28, 29, 64, 127, 128, 129, 255, 256, 257, 10000} {
			p := with(t, 1, 1, text(0, held))
			fits := min(n, most-held)
			wantWrite(t, p, text(held, n), fits, api.OK)
			wantState(t, p, 1, 1, held+fits)
			wantRead(t, p, most, text(0, held+fits), false)
			wantState(t, p, 1, 1, 0)
		}
	}
}

// TestWriteFull writes to a full pipe: nothing fits, which is no error.
func TestWriteFull(t *testing.T) {
	p := with(t, 1, 1, text(0, most))
	for _, s := range []string{"", "x", text(0, 500)} {
		wantWrite(t, p, s, 0, api.OK)
		wantState(t, p, 1, 1, most)
	}
	wantRead(t, p, 1, text(0, 1), false)
	wantWrite(t, p, "xyz", 1, api.OK)
	wantRead(t, p, 500, text(1, most-1)+"x", false)
}

// TestWriteBytes writes every byte alone, and all of them in pieces.
func TestWriteBytes(t *testing.T) {
	p := pipe.New()
	for b := range 256 {
		s := string([]byte{byte(b)})
		wantWrite(t, p, s, 1, api.OK)
		wantRead(t, p, 1, s, false)
	}
	for _, s := range []string{"\x00", "\x00\x00\x00", "\n\n", "a\u00e9\u20ac", "\xff\xfe\xc3", "%d\\"} {
		wantWrite(t, p, s, len(s), api.OK)
		wantRead(t, p, len(s), s, false)
	}
}

// TestWriteNoReader writes where nobody reads: ErrPipe, also if nothing is written or nothing would fit, and nothing changes.
func TestWriteNoReader(t *testing.T) {
	for writers := range 3 {
		for _, held := range []int{0, 1, most - 1, most} {
			p := with(t, 0, writers, text(0, held))
			for _, s := range []string{"", "x", text(0, most), text(0, 1000)} {
				wantWrite(t, p, s, 0, api.ErrPipe)
				wantState(t, p, 0, writers, held)
			}
			wantRead(t, p, most, text(0, held), writers == 0)
		}
	}
}

// TestWriteNoWriter writes to a pipe of which nobody is a writer: the chapter knows no error for it.
func TestWriteNoWriter(t *testing.T) {
	p := with(t, 1, 0, "ab")
	wantWrite(t, p, "cd", 2, api.OK)
	wantState(t, p, 1, 0, 4)
	wantRead(t, p, 3, "abc", false)
	wantRead(t, p, 1, "d", true)
}

func TestRead(t *testing.T) {
	for _, held := range []int{0, 1, 2, 5, 64, 127, 128} {
		for _, n := range []int{1, 2, 3, 4, 5, 6, 63, 64, 65, 126, 127, 128, 129, 1000, 1 << 32, math.MaxInt} {
			for writers := range 3 {
				for readers := range 3 { // the answer does not hang on who reads
					p := with(t, readers, writers, text(0, held))
					gone := min(n, held)
					wantRead(t, p, n, text(0, gone), gone == held && writers == 0)
					wantState(t, p, readers, writers, held-gone)
					wantRead(t, p, most, text(gone, held-gone), writers == 0)
					wantState(t, p, readers, writers, 0)
				}
			}
		}
	}
}

// TestReadNone reads less than 1 byte: none is removed, but whether it ends is told.
func TestReadNone(t *testing.T) {
	for _, n := range []int{0, -1, -2, -128, -129, -1 << 32, math.MinInt, math.MinInt + 1} {
		for writers := range 3 {
			for _, held := range []int{0, 1, 127, most} {
				p := with(t, 1, writers, text(0, held))
				wantRead(t, p, n, "", held == 0 && writers == 0)
				wantState(t, p, 1, writers, held)
				wantRead(t, p, most, text(0, held), writers == 0)
			}
		}
	}
}

// TestReadEnd reads on behind the end: it stays the end.
func TestReadEnd(t *testing.T) {
	p := with(t, 1, 0, "abc")
	wantRead(t, p, 2, "ab", false)
	wantRead(t, p, 0, "", false)
	wantRead(t, p, 1, "c", true)
	for range 3 {
		wantRead(t, p, 1, "", true)
		wantRead(t, p, 0, "", true)
		wantRead(t, p, -1, "", true)
		wantState(t, p, 1, 0, 0)
	}
}

// TestReadKept keeps what was read while the pipe is filled with other bytes again and again (R1).
func TestReadKept(t *testing.T) {
	p := with(t, 1, 1, strings.Repeat("a", most))
	s, _ := p.Read(most)
	for _, other := range []string{"b", "c", "d"} {
		wantWrite(t, p, strings.Repeat(other, 2*most), most, api.OK)
		p.Read(most)
	}
	if s != strings.Repeat("a", most) {
		t.Errorf("what was read has become %q", s)
	}
}

func TestState(t *testing.T) {
	for readers := range 4 {
		for writers := range 4 {
			for held := range most + 1 {
				p := with(t, readers, writers, text(0, held))
				wantState(t, p, readers, writers, held)
				wantState(t, p, readers, writers, held) // asking changes nothing
				wantRead(t, p, most, text(0, held), writers == 0)
			}
		}
	}
}

// moved returns an empty pipe whose next byte is put n places behind the one at which a new pipe begins.
func moved(n int) *pipe.Pipe {
	p := pipe.New()
	for range n {
		p.Write("-")
		p.Read(1)
	}
	return p
}

// TestRound writes and reads any number of bytes from any place of the ring on.
func TestRound(t *testing.T) {
	for place := range most + 2 {
		for n := range most + 3 {
			p, fits := moved(place), min(n, most)
			wantWrite(t, p, text(0, n), fits, api.OK)
			wantState(t, p, 1, 1, fits)
			wantRead(t, p, n/2, text(0, n/2), false)
			wantWrite(t, p, text(fits, most), most-fits+n/2, api.OK)
			wantState(t, p, 1, 1, most)
			wantRead(t, p, most, text(n/2, most), false)
			wantState(t, p, 1, 1, 0)
		}
	}
}

// TestPieces writes in pieces of one length and reads in pieces of another, for many rounds of the ring.
func TestPieces(t *testing.T) {
	for in := 1; in <= most+1; in += 3 {
		for out := 1; out <= most+1; out += 4 {
			p := pipe.New()
			at, gone := 0, 0
			for gone < 10*most {
				n, err := p.Write(text(at, in))
				if err != api.OK || n != min(in, most-(at-gone)) {
					t.Fatalf("%d in, %d out: at %d, %d gone: Write: %d, %v", in, out, at, gone, n, err)
				}
				at += n
				s, end := p.Read(out)
				if end || s != text(gone, min(out, at-gone)) {
					t.Fatalf("%d in, %d out: at %d, %d gone: Read: %q, %v", in, out, at, gone, s, end)
				}
				gone += len(s)
			}
		}
	}
}
