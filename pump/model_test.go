package pump_test

import (
	"bytes"
	"math"
	"testing"

	"subway/pump"
)

// greatest is the most bytes that may wait in any ring (chapter 7, G1).
const greatest = 65536

// sides is a pump, and what the chapter says of it: how many bytes may wait each way; of each side what was accepted there, how many of these went out at the other one, whether it has ended, and whether its end went out; whether all is broken.
type sides struct {
	p        *pump.Pump
	most     int
	accepted [2][]byte
	went     [2]int
	ended    [2]bool
	endWent  [2]bool
	broken   bool
}

func newSides(most int) *sides {
	return &sides{p: pump.New(most), most: min(max(most, 0), greatest)}
}

// noSides are numbers that are none.
func noSides() []int {
	return []int{-1, 2, -2, 3, 4, 255, 256, 257, 1 << 32, 1<<32 + 1, -1 << 32, 1 - 1<<32, math.MinInt, math.MinInt + 1, math.MinInt32, math.MaxInt, math.MaxInt - 1, math.MaxInt32}
}

// waiting is what came in at a side, and waits to go out at the other one.
func (s *sides) waiting(from int) []byte {
	if s.broken {
		return nil
	}
	return s.accepted[from][s.went[from]:]
}

// room is how many bytes more may come in at a side.
func (s *sides) room(side int) int {
	if s.broken || s.ended[side] {
		return 0
	}
	return s.most - len(s.waiting(side))
}

// like holds all that the pump tells against what it should, twice: to ask changes nothing.
func (s *sides) like(t *testing.T) {
	t.Helper()
	over := s.broken || s.endWent[0] && s.endWent[1]
	for range 2 {
		for side, other := range [2]int{1, 0} {
			moved, waits, room := int64(s.went[other]), len(s.waiting(other)), s.room(side)
			if m := s.p.Moved(side); m != moved {
				t.Fatalf("of %d: %d moved at %d, not %d", s.most, m, side, moved)
			}
			if w := s.p.Waits(side); w != waits {
				t.Fatalf("of %d: %d wait at %d, not %d", s.most, w, side, waits)
			}
			if r := s.p.Room(side); r != room {
				t.Fatalf("of %d: there is room for %d at %d, not %d", s.most, r, side, room)
			}
		}
		if s.p.Over() != over {
			t.Fatalf("of %d: it is over: %t", s.most, !over)
		}
	}
}

// likeNoSide holds that numbers which are no side have nothing and do nothing, whatever is asked of them.
func (s *sides) likeNoSide(t *testing.T) {
	t.Helper()
	for _, side := range noSides() {
		if many := s.p.In(side, []byte("no")); many != 0 {
			t.Fatalf("In of %d: %d", side, many)
		}
		if s.p.End(side) {
			t.Fatalf("End of %d", side)
		}
		for _, n := range []int{math.MinInt, -1, 0, 1, 9, math.MaxInt} {
			if b, end := s.p.Out(side, n); len(b) != 0 || end {
				t.Fatalf("Out of %d, %d: %q, %t", side, n, b, end)
			}
		}
		if m, w, r := s.p.Moved(side), s.p.Waits(side), s.p.Room(side); m != 0 || w != 0 || r != 0 {
			t.Fatalf("of %d, that is no side: %d moved, %d wait, there is room for %d", side, m, w, r)
		}
	}
	s.like(t)
}

func (s *sides) in(t *testing.T, side int, b []byte) int {
	t.Helper()
	want := min(len(b), s.room(side))
	if many := s.p.In(side, b); many != want {
		t.Fatalf("of %d: In of %d bytes at %d is %d, not %d", s.most, len(b), side, many, want)
	}
	s.accepted[side] = append(s.accepted[side], b[:want]...)
	s.like(t)
	return want
}

// more has so many bytes come in at a side, which go on where those end that were accepted there.
func (s *sides) more(t *testing.T, side int, many int) int {
	t.Helper()
	return s.in(t, side, row(side, len(s.accepted[side]), many))
}

func (s *sides) end(t *testing.T, side int) bool {
	t.Helper()
	want := !s.broken && !s.ended[side]
	if is := s.p.End(side); is != want {
		t.Fatalf("of %d: End of %d is %t", s.most, side, is)
	}
	s.ended[side] = s.ended[side] || want
	s.like(t)
	return want
}

func (s *sides) out(t *testing.T, side int, n int) (string, bool) {
	t.Helper()
	from := 1 - side
	want := s.waiting(from)
	want = want[:min(max(n, 0), len(want))]
	last := !s.broken && s.ended[from] && !s.endWent[from] && len(want) == len(s.waiting(from))
	b, end := s.p.Out(side, n)
	if !bytes.Equal(b, want) || end != last {
		t.Fatalf("of %d: Out of %d at %d is %.99q, %t, not %.99q, %t", s.most, n, side, b, end, want, last)
	}
	overwrite(b)
	s.went[from] += len(want)
	s.endWent[from] = s.endWent[from] || last
	s.like(t)
	return string(want), last
}

func (s *sides) breaks(t *testing.T) {
	t.Helper()
	s.p.Break()
	s.broken = true
	s.like(t)
}

// row is many bytes of a side, from that one on: no two of 113 beside each other are alike, and no two sides have one in common.
func row(side int, from int, many int) []byte {
	b := make([]byte, many)
	for i := range b {
		b[i] = byte(side*128 + (from+i)%113)
	}
	return b
}

// overwrite writes over a list, its spare room too.
func overwrite(b []byte) {
	b = b[:cap(b)]
	for i := range b {
		b[i] = '!'
	}
}

// drawer draws numbers below one.
func drawer(seed uint32) func(int) int {
	return func(below int) int {
		seed = seed*1664525 + 1013904223
		return int(seed>>8) % below
	}
}
