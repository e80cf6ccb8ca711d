package pump_test

import (
	"bytes"
	"math"
	"testing"

	"subway/pump"
)

// states are pumps of 4 in all that one may be in: of each, what was done to it.
func states() map[string]func(*testing.T) *sides {
	after := func(do func(*testing.T, *sides)) func(*testing.T) *sides {
		return func(t *testing.T) *sides {
			t.Helper()
			s := newSides(4)
			do(t, s)
			return s
		}
	}
	return map[string]func(*testing.T) *sides{
		"new": after(func(*testing.T, *sides) {}),
		"bytes at 0": after(func(t *testing.T, s *sides) {
			s.more(t, 0, 3)
		}),
		"bytes both ways, some went": after(func(t *testing.T, s *sides) {
			s.more(t, 0, 4)
			s.more(t, 1, 2)
			s.out(t, 1, 2)
			s.out(t, 0, 1)
		}),
		"0 ended, with bytes": after(func(t *testing.T, s *sides) {
			s.more(t, 0, 3)
			s.more(t, 1, 1)
			s.end(t, 0)
		}),
		"1 ended, without bytes": after(func(t *testing.T, s *sides) {
			s.more(t, 0, 3)
			s.end(t, 1)
		}),
		"the end of 0 went": after(func(t *testing.T, s *sides) {
			s.more(t, 0, 3)
			s.more(t, 1, 2)
			s.end(t, 0)
			s.out(t, 1, 9)
		}),
		"both ended": after(func(t *testing.T, s *sides) {
			s.more(t, 0, 1)
			s.more(t, 1, 2)
			s.end(t, 0)
			s.end(t, 1)
		}),
		"both ends went": after(func(t *testing.T, s *sides) {
			s.more(t, 1, 2)
			s.end(t, 0)
			s.end(t, 1)
			s.out(t, 0, 2)
			s.out(t, 1, 0)
		}),
		"broken": after(func(t *testing.T, s *sides) {
			s.more(t, 0, 4)
			s.more(t, 1, 2)
			s.out(t, 1, 1)
			s.breaks(t)
		}),
		"broken, behind an end": after(func(t *testing.T, s *sides) {
			s.more(t, 0, 2)
			s.more(t, 1, 2)
			s.end(t, 1)
			s.out(t, 0, 1)
			s.breaks(t)
		}),
	}
}

// P17.1, R1.

func TestANewOne(t *testing.T) {
	for most, want := range map[int]int{
		0: 0, 1: 1, 2: 2, 4: 4, 256: 256, 65535: 65535, 65536: 65536,
		-1: 0, -2: 0, -65536: 0, math.MinInt: 0, math.MinInt32: 0, -1 << 32: 0, 1 - 1<<32: 0,
		65537: 65536, 1 << 20: 65536, 1<<32 + 1: 65536, math.MaxInt32: 65536, math.MaxInt: 65536,
	} {
		for side := range 2 {
			p := pump.New(most)
			if p.Over() {
				t.Errorf("New of %d is over", most)
			}
			if r, w, m := p.Room(side), p.Waits(side), p.Moved(side); r != want || w != 0 || m != 0 {
				t.Errorf("New of %d, at %d: room for %d, %d wait, %d moved", most, side, r, w, m)
			}
			if b, end := p.Out(side, 9); len(b) != 0 || end {
				t.Errorf("New of %d, Out at %d: %q, %t", most, side, b, end)
			}
			if many := p.In(side, row(0, 0, want+1)); many != want || p.Room(side) != 0 || p.Waits(1-side) != want || p.Room(1-side) != want {
				t.Errorf("New of %d, In at %d: %d, not %d", most, side, many, want)
			}
		}
	}
}

func TestTheExample(t *testing.T) {
	p := pump.New(4)
	if many := p.In(0, []byte("ab")); many != 2 {
		t.Errorf("In: %d", many)
	}
	if !p.End(0) {
		t.Error("End")
	}
	if b, end := p.Out(1, 1); string(b) != "a" || end {
		t.Errorf("%q, %t", b, end)
	}
	if b, end := p.Out(1, 9); string(b) != "b" || !end {
		t.Errorf("%q, %t", b, end)
	}
}

func TestInOfEachLength(t *testing.T) {
	for most := range 8 {
		for wait := range most + 1 {
			for many := range 2*most + 3 {
				for side := range 2 {
					s := newSides(most)
					s.more(t, side, wait)
					if got, want := s.more(t, side, many), min(many, most-wait); got != want {
						t.Errorf("of %d, where %d wait: %d of %d", most, wait, got, many)
					}
					s.in(t, side, nil)
					s.out(t, 1-side, most)
				}
			}
		}
	}
}

// What comes in at a side goes out at the other one, not where it came in.
func TestWhereItGoesOut(t *testing.T) {
	p := pump.New(9)
	p.In(0, []byte("of none"))
	p.In(1, []byte("of one"))
	if p.Waits(1) != 7 || p.Waits(0) != 6 || p.Room(0) != 2 || p.Room(1) != 3 {
		t.Error(p.Waits(1), p.Waits(0), p.Room(0), p.Room(1))
	}
	if b, _ := p.Out(0, 4); string(b) != "of o" {
		t.Errorf("%q", b)
	}
	if b, _ := p.Out(1, 3); string(b) != "of " {
		t.Errorf("%q", b)
	}
	if p.Moved(0) != 4 || p.Moved(1) != 3 || p.Waits(0) != 2 || p.Waits(1) != 4 || p.Room(0) != 5 || p.Room(1) != 7 {
		t.Error(p.Moved(0), p.Moved(1), p.Waits(0), p.Waits(1), p.Room(0), p.Room(1))
	}
}

// A number that is no side has nothing, and changes nothing, in whatever state the pump is.
func TestNoSide(t *testing.T) {
	for name, made := range states() {
		t.Run(name, func(t *testing.T) {
			s := made(t)
			s.likeNoSide(t)
			for side := range 2 {
				s.more(t, side, 1)
				s.out(t, side, 2)
				s.end(t, side)
				s.likeNoSide(t)
				s.out(t, 1-side, 9)
				s.likeNoSide(t)
			}
		})
	}
}

func TestNothingComesInBehindAnEnd(t *testing.T) {
	for _, most := range []int{0, 1, 4, 256} {
		for wait := range min(most, 3) + 1 {
			for side := range 2 {
				s := newSides(most)
				s.more(t, side, wait)
				if !s.end(t, side) || s.p.Room(side) != 0 {
					t.Errorf("of %d: End of %d; there is room for %d", most, side, s.p.Room(side))
				}
				for _, many := range []int{0, 1, 2, most, most + 1} {
					if got := s.more(t, side, many); got != 0 {
						t.Errorf("of %d: %d came in behind the end of %d", most, got, side)
					}
				}
				if b, end := s.out(t, 1-side, most+1); b != string(row(side, 0, wait)) || !end {
					t.Errorf("of %d: %q, %t", most, b, end)
				}
				if got := s.more(t, side, 1); got != 0 { // nor when the end went out
					t.Errorf("of %d: %d came in behind the end of %d, that went out", most, got, side)
				}
			}
		}
	}
}

func TestEnd(t *testing.T) {
	for _, first := range []int{0, 1} {
		s := newSides(4)
		for _, x := range []struct {
			side int
			want bool
		}{{first, true}, {first, false}, {1 - first, true}, {1 - first, false}, {first, false}} {
			if is := s.end(t, x.side); is != x.want {
				t.Errorf("End of %d: %t", x.side, is)
			}
		}
		s.out(t, 0, 1)
		s.out(t, 1, 1)
		if s.end(t, 0) || s.end(t, 1) { // also when the ends went out
			t.Error("it ends again")
		}
	}
}

// P17.1, R2.

func TestOutOfEachLength(t *testing.T) {
	for most := range 8 {
		for wait := range most + 1 {
			for n := -2; n < most+3; n++ {
				for side := range 2 {
					for _, ended := range []bool{false, true} {
						s := newSides(most)
						s.more(t, 1-side, wait)
						if ended {
							s.end(t, 1-side)
						}
						s.out(t, side, n)
						s.out(t, side, most)
						s.out(t, side, most)
					}
				}
			}
		}
	}
}

// Whatever n is, an end that is due goes out, behind the last byte.
func TestOutOfAnEnd(t *testing.T) {
	for _, n := range []int{math.MinInt, math.MinInt32, -1 << 32, -2, -1, 0, 1, 2, 1 << 32, math.MaxInt} {
		for side := range 2 {
			s := newSides(4)
			if b, end := s.out(t, side, n); b != "" || end {
				t.Errorf("Out of %d, nothing came: %q, %t", n, b, end)
			}
			s.end(t, 1-side)
			if b, end := s.out(t, side, n); b != "" || !end {
				t.Errorf("Out of %d, behind an end: %q, %t", n, b, end)
			}
			if b, end := s.out(t, side, n); b != "" || end {
				t.Errorf("Out of %d, once more: %q, %t", n, b, end)
			}
		}
	}
}

func TestOutOfLess(t *testing.T) {
	s := newSides(4)
	s.in(t, 1, []byte("abc"))
	s.end(t, 1)
	for _, x := range []struct {
		n    int
		want string
		end  bool
	}{{math.MinInt, "", false}, {-1, "", false}, {0, "", false}, {1, "a", false}, {0, "", false}, {-1, "", false}, {2, "bc", true}, {1, "", false}} {
		if b, end := s.out(t, 0, x.n); b != x.want || end != x.end {
			t.Errorf("Out of %d: %q, %t", x.n, b, end)
		}
	}
}

// The end that a side says goes out at the other one, not at its own.
func TestWhereAnEndGoesOut(t *testing.T) {
	for side := range 2 {
		s := newSides(4)
		s.end(t, side)
		if b, end := s.out(t, side, 9); b != "" || end {
			t.Errorf("at %d: %q, %t", side, b, end)
		}
		if b, end := s.out(t, 1-side, 9); b != "" || !end {
			t.Errorf("at %d: %q, %t", 1-side, b, end)
		}
	}
}

// An end may come when all bytes went out already.
func TestAnEndBehindWhatWent(t *testing.T) {
	s := newSides(4)
	s.in(t, 0, []byte("abcd"))
	if b, end := s.out(t, 1, 4); b != "abcd" || end {
		t.Errorf("%q, %t", b, end)
	}
	s.end(t, 0)
	if b, end := s.out(t, 1, 4); b != "" || !end {
		t.Errorf("%q, %t", b, end)
	}
}

// P17.1, R3.

// Behind a break nothing waits, comes in, goes out or ends, and what moved stays as it is.
func TestBreak(t *testing.T) {
	for name, made := range states() {
		t.Run(name, func(t *testing.T) {
			s := made(t)
			moved := [2]int64{s.p.Moved(0), s.p.Moved(1)}
			for range 2 { // a second one is as the first
				s.breaks(t)
				for side := range 2 {
					if s.more(t, side, 2) != 0 || s.more(t, side, 0) != 0 || s.end(t, side) {
						t.Errorf("In or End at %d, behind a break", side)
					}
					for _, n := range []int{math.MinInt, -1, 0, 1, 9, math.MaxInt} {
						if b, end := s.out(t, side, n); b != "" || end {
							t.Errorf("Out of %d at %d, behind a break: %q, %t", n, side, b, end)
						}
					}
					if s.p.Waits(side) != 0 || s.p.Room(side) != 0 || s.p.Moved(side) != moved[side] {
						t.Errorf("at %d: %d wait, there is room for %d, %d moved", side, s.p.Waits(side), s.p.Room(side), s.p.Moved(side))
					}
				}
				if !s.p.Over() {
					t.Error("it is not over")
				}
			}
			s.likeNoSide(t)
		})
	}
}

// It is over when both ends went out, in whatever order, or when all is broken.
func TestOver(t *testing.T) {
	for side := range 2 {
		s := newSides(4)
		want := func(over bool) {
			t.Helper()
			if s.p.Over() != over {
				t.Errorf("first %d: it is over: %t", side, !over)
			}
		}
		s.more(t, side, 2)
		s.more(t, 1-side, 1)
		want(false)
		s.end(t, side)
		want(false)
		s.end(t, 1-side)
		want(false)
		s.out(t, 1-side, 1)
		want(false)
		s.out(t, side, 1) // with the end of the other one
		want(false)
		s.out(t, 1-side, 1)
		want(true)
		s.out(t, 0, 1)
		s.out(t, 1, 1)
		s.more(t, 0, 1)
		want(true)
		s.breaks(t)
		want(true)
	}
	for name, over := range map[string]bool{
		"new": false, "bytes both ways, some went": false, "1 ended, without bytes": false, "the end of 0 went": false, "both ended": false,
		"both ends went": true, "broken": true, "broken, behind an end": true,
	} {
		if states()[name](t).p.Over() != over {
			t.Errorf("%s: it is over: %t", name, !over)
		}
	}
}

// How many moved goes on beyond what may wait at once.
func TestMovedOfMany(t *testing.T) {
	for _, most := range []int{1, 3, 256, greatest} {
		p := pump.New(most)
		for turn := range 300 {
			for side := range 2 {
				p.In(side, row(side, 0, most))
				if b, _ := p.Out(1-side, most+1); len(b) != most {
					t.Fatal(most, turn, side, len(b))
				}
				if m := p.Moved(1 - side); m != int64((turn+1)*most) {
					t.Fatalf("of %d, in turn %d: %d moved at %d", most, turn, m, 1-side)
				}
			}
		}
	}
}

func TestEveryByteIsAByte(t *testing.T) {
	var all []byte
	for c := range 256 {
		all = append(all, byte(c))
	}
	for side := range 2 {
		s := newSides(256)
		for _, n := range []int{0, 1, 128, 255, 256} {
			s.in(t, side, all)
			s.out(t, 1-side, n)
		}
		s.end(t, side)
		s.out(t, 1-side, 256)
	}
}

// All rows of four calls, at small lengths: bytes of each length come in at both sides or go out at them, both sides end, all breaks.
func TestAllShortScripts(t *testing.T) {
	for most := range 3 {
		calls := 4*most + 13
		for script := range calls * calls * calls * calls {
			s := newSides(most)
			for rest, left := script, 4; left > 0; rest, left = rest/calls, left-1 {
				s.call(t, rest%calls)
			}
		}
	}
}

// call does the one of 4 most + 13 calls that has that number.
func (s *sides) call(t *testing.T, number int) {
	t.Helper()
	side, number := number%2, number/2
	switch {
	case number < s.most+2:
		s.more(t, side, number)
	case number < 2*s.most+5:
		s.out(t, side, number-s.most-3)
	case number < 2*s.most+6:
		s.end(t, side)
	default:
		s.breaks(t)
	}
}

// All of it, in turns, next to what the chapter says.
func TestMixed(t *testing.T) {
	for seed := range uint32(400) {
		draw := drawer(seed)
		s := newSides(draw(20))
		for range 120 {
			side := draw(2)
			switch draw(40) {
			case 0:
				s.end(t, side)
			case 1:
				s.likeNoSide(t)
			case 2:
				if draw(10) == 0 {
					s.breaks(t)
				}
			default:
				s.more(t, side, draw(s.most+3))
				s.out(t, draw(2), draw(s.most+4)-1)
			}
		}
	}
}

// P17.2: what went out at a side is a beginning of what was accepted at the other one; what is missing waits, and is never more than may.
func TestABeginning(t *testing.T) {
	for seed := range uint32(200) {
		draw := drawer(seed + 5000)
		most := 1 + draw(30)
		p := pump.New(most)
		var accepted, out [2][]byte // both by the side at which they came in
		for range 300 {
			from := draw(2)
			b := row(from, draw(113), draw(2*most))
			if draw(2) == 0 {
				accepted[from] = append(accepted[from], b[:p.In(from, b)]...)
			} else {
				b, end := p.Out(1-from, draw(most+2)-1)
				out[from] = append(out[from], b...)
				if end {
					t.Fatalf("seed %d: an end that nobody said", seed)
				}
			}
			for from, went := range out {
				if !bytes.HasPrefix(accepted[from], went) {
					t.Fatalf("seed %d: at %d went %q, of %q", seed, 1-from, went, accepted[from])
				}
				missing := len(accepted[from]) - len(went)
				if p.Waits(1-from) != missing || missing > most || p.Room(from) != most-missing || p.Moved(1-from) != int64(len(went)) {
					t.Fatalf("seed %d: %d wait at %d, where %d are missing", seed, p.Waits(1-from), 1-from, missing)
				}
			}
		}
		for from := range 2 { // what waits is what is missing
			b, _ := p.Out(1-from, most)
			if out := append(out[from], b...); !bytes.Equal(out, accepted[from]) {
				t.Fatalf("seed %d: at %d went %q, of %q", seed, 1-from, out, accepted[from])
			}
		}
	}
}

// P17.3: an end goes out once, behind all bytes.
func TestTheEnd(t *testing.T) {
	for seed := range uint32(300) {
		draw := drawer(seed + 9000)
		most := draw(12)
		p := pump.New(most)
		var accepted, out, ends [2]int
		var ended [2]bool
		for turn := range 200 {
			from := draw(2)
			accepted[from] += p.In(from, row(from, 0, draw(most+2)))
			if turn > 100 && draw(20) == 0 {
				ended[from] = p.End(from) || ended[from]
			}
			b, end := p.Out(1-from, draw(most+2)-1)
			out[from] += len(b)
			if len(b) > 0 && ends[from] > 0 {
				t.Fatalf("seed %d: %q behind the end of %d", seed, b, from)
			}
			if due := ended[from] && ends[from] == 0 && out[from] == accepted[from]; end != due {
				t.Fatalf("seed %d: an end of %d: %t, where %d of %d went", seed, from, end, out[from], accepted[from])
			}
			if end {
				ends[from]++
			}
			if p.Over() != (ends == [2]int{1, 1}) {
				t.Fatalf("seed %d: it is over: %t, where of both sides %v ends went", seed, p.Over(), ends)
			}
		}
	}
}

// P17.4: what one way answers is the same whether anything goes the other way or not.
func TestApart(t *testing.T) {
	for seed := range uint32(300) {
		for from := range 2 {
			draw, noise := drawer(seed+20000), drawer(seed*7+1)
			most := draw(10)
			both, alone := pump.New(most), pump.New(most)
			for turn := range 150 {
				disturb(both, 1-from, noise, most)
				switch draw(30) {
				case 0:
					if is := both.End(from); is != alone.End(from) {
						t.Fatalf("seed %d, turn %d: End of %d: %t", seed, turn, from, is)
					}
				default:
					b := row(from, draw(113), draw(most+3))
					if many := both.In(from, b); many != alone.In(from, b) {
						t.Fatalf("seed %d, turn %d: In at %d: %d", seed, turn, from, many)
					}
				}
				disturb(both, 1-from, noise, most)
				n := draw(most+3) - 1
				got, end := both.Out(1-from, n)
				want, last := alone.Out(1-from, n)
				if !bytes.Equal(got, want) || end != last {
					t.Fatalf("seed %d, turn %d: at %d %q, %t, not %q, %t", seed, turn, 1-from, got, end, want, last)
				}
				if both.Moved(1-from) != alone.Moved(1-from) || both.Waits(1-from) != alone.Waits(1-from) || both.Room(from) != alone.Room(from) {
					t.Fatalf("seed %d, turn %d: what moved, waits, or may come in, of the way from %d", seed, turn, from)
				}
			}
		}
	}
}

// disturb has something go the way from a side.
func disturb(p *pump.Pump, from int, draw func(int) int, most int) {
	p.In(from, bytes.Repeat([]byte("!"), draw(most+3)))
	if draw(40) == 0 {
		p.End(from)
	}
	p.Out(1-from, draw(most+3)-1)
}

// P3: what is handed in stays as it is, its spare room too, and is not kept; what comes out shares nothing with the pump, nor with what else comes out.

func TestWhatIsHandedInStaysAsItIs(t *testing.T) {
	for most := range 9 {
		p := pump.New(most)
		b := row(0, 1, 40)
		for many := range len(b) {
			p.In(many%2, b[:many])
			p.Out(1-many%2, many%5)
			p.Out(many%2, 9)
		}
		p.End(0)
		p.In(0, b[:9])
		p.Break()
		p.In(1, b[:9])
		if !bytes.Equal(b, row(0, 1, 40)) {
			t.Errorf("of %d: what was handed in became %q", most, b)
		}
	}
}

func TestWhatIsHandedInIsNotKept(t *testing.T) {
	for place := range 8 {
		for side := range 2 {
			s := newSides(8)
			s.more(t, side, place)
			s.out(t, 1-side, place)
			b := append(make([]byte, 0, 40), "abcdef"...)
			s.in(t, side, b)
			overwrite(b)
			if got, _ := s.out(t, 1-side, 8); got != "abcdef" {
				t.Errorf("%q went out", got)
			}
		}
	}
}

func TestWhatComesOutIsNew(t *testing.T) {
	for place := range 9 {
		for n := range 9 {
			p := pump.New(8)
			for side := range 2 {
				p.In(side, row(side, 0, place))
				p.Out(1-side, place)
				p.In(side, row(side, 0, 8))
			}
			first, _ := p.Out(1, n)
			overwrite(first)
			second, _ := p.Out(0, n)
			rest, _ := p.Out(1, 8)
			overwrite(rest)
			if !bytes.Equal(second, row(1, 0, n)) {
				t.Errorf("what came out became %q", second)
			}
			p.In(0, row(0, 8, 8)) // in the places of those that went out
			p.Break()
			if len(bytes.Trim(first, "!")) != 0 || len(bytes.Trim(rest, "!")) != 0 {
				t.Errorf("what came out became %q and %q", first, rest)
			}
		}
	}
}

// Two pumps have nothing in common.
func TestTwoPumps(t *testing.T) {
	one, other := newSides(5), newSides(5)
	for i := range 40 {
		one.more(t, i%2, i%4)
		other.more(t, i/2%2, i%3)
		one.out(t, i/3%2, i%3)
		other.out(t, i%2, i%5)
		one.like(t)
	}
	one.end(t, 0)
	other.like(t)
	one.breaks(t)
	other.like(t)
	other.more(t, 0, 3)
	other.end(t, 1)
	one.like(t)
}
