package ring_test

import (
	"bytes"
	"math"
	"testing"

	"subway/ring"
)

// greatest is the most bytes that may wait in any ring.
const greatest = 65536

// row is many bytes, of which the first is that number: no two of 251 beside each other are alike.
func row(from, many int) []byte {
	b := make([]byte, many)
	for i := range b {
		b[i] = byte((from + i) % 251)
	}
	return b
}

// held is a ring, and what the chapter says of it: how many may wait, what was accepted in all, and how many of these were taken.
type held struct {
	r        *ring.Ring
	most     int
	accepted []byte
	taken    int
}

func hold(most int) *held {
	return &held{r: ring.New(most), most: min(max(most, 0), greatest)}
}

func (h *held) waits() []byte {
	return h.accepted[h.taken:]
}

// wantWaits asks twice: to ask changes nothing.
func (h *held) wantWaits(t *testing.T) {
	t.Helper()
	for range 2 {
		if got := h.r.Look(); !bytes.Equal(got, h.waits()) {
			t.Fatalf("of %d: Look is %.99q, not %.99q", h.most, got, h.waits())
		}
		if many, room := h.r.Many(), h.r.Room(); many != len(h.waits()) || room != h.most-len(h.waits()) {
			t.Fatalf("of %d: Many is %d, Room is %d, where %d wait", h.most, many, room, len(h.waits()))
		}
	}
}

func (h *held) add(t *testing.T, b []byte) {
	t.Helper()
	want := min(len(b), h.most-len(h.waits()))
	if got := h.r.Add(b); got != want {
		t.Fatalf("of %d: Add of %d bytes is %d, not %d", h.most, len(b), got, want)
	}
	h.accepted = append(h.accepted, b[:want]...)
	h.wantWaits(t)
}

// more adds as many bytes as that, which go on where those end that were accepted.
func (h *held) more(t *testing.T, many int) {
	t.Helper()
	h.add(t, row(len(h.accepted), many))
}

func (h *held) take(t *testing.T, n int) {
	t.Helper()
	want := h.waits()[:min(max(n, 0), len(h.waits()))]
	if got := h.r.Take(n); !bytes.Equal(got, want) {
		t.Fatalf("of %d: Take of %d is %.99q, not %.99q", h.most, n, got, want)
	}
	h.taken += len(want)
	h.wantWaits(t)
}

// P7.1, G1.

func TestHowManyMayWait(t *testing.T) {
	for most, want := range map[int]int{
		0: 0, 1: 1, 2: 2, 3: 3, 255: 255, 256: 256, 257: 257, 65535: 65535, 65536: 65536,
		-1: 0, -2: 0, -65536: 0, math.MinInt: 0, math.MinInt32: 0, -1 << 32: 0, 1 - 1<<32: 0,
		65537: 65536, 65538: 65536, 1 << 17: 65536, 1 << 20: 65536, 1<<32 + 1: 65536, math.MaxInt32: 65536, math.MaxInt: 65536,
	} {
		r := ring.New(most)
		if len(r.Look()) != 0 || len(r.Take(1)) != 0 || r.Many() != 0 || r.Room() != want {
			t.Errorf("New of %d: %d wait, %d more may, not %d", most, r.Many(), r.Room(), want)
		}
		if got := r.Add(row(0, want+1)); got != want || r.Many() != want || r.Room() != 0 {
			t.Errorf("New of %d: %d are accepted, not %d", most, got, want)
		}
	}
}

func TestOfNone(t *testing.T) {
	for _, most := range []int{0, -1, math.MinInt} {
		h := hold(most)
		for _, many := range []int{0, 1, 2, 300, greatest, greatest + 1} {
			h.more(t, many)
			for _, n := range []int{math.MinInt, -1, 0, 1, 300, math.MaxInt} {
				h.take(t, n)
			}
		}
	}
}

// P7.1, G2; P7.2.

func TestTheExample(t *testing.T) {
	r := ring.New(3)
	if got := r.Add([]byte("abcd")); got != 3 || string(r.Look()) != "abc" {
		t.Errorf("Add of abcd is %d, and %q waits", got, r.Look())
	}
}

func TestAddOfEachLength(t *testing.T) {
	for most := range 20 {
		for wait := range most + 1 {
			for many := range 2*most + 3 {
				h := hold(most)
				h.more(t, wait)
				h.more(t, many)
				h.take(t, most)
			}
		}
	}
}

func TestTakeOfEachLength(t *testing.T) {
	for most := range 20 {
		for wait := range most + 1 {
			for n := -3; n < 2*most+3; n++ {
				h := hold(most)
				h.more(t, wait)
				h.take(t, n)
				h.more(t, most)
			}
		}
	}
}

// All that may wait, from each place of the row on, and added and taken in two pieces of all lengths.
func TestRoundFromEachPlace(t *testing.T) {
	for most := 1; most <= 16; most++ {
		for place := range most {
			for piece := range most + 1 {
				h := hold(most)
				h.more(t, place)
				h.take(t, place)
				h.more(t, piece)
				h.more(t, most-piece)
				h.more(t, 1) // there is no room
				h.take(t, piece)
				h.take(t, most-piece)
				h.take(t, 1) // nothing waits
			}
		}
	}
}

func TestOneAtATime(t *testing.T) {
	for _, most := range []int{1, 2, 3, 7, 256} {
		for wait := range min(most, 9) {
			h := hold(most)
			h.more(t, wait)
			for range 3*most + 5 {
				h.more(t, 1)
				h.take(t, 1)
			}
		}
	}
}

// What nobody may take, and what nobody can add, between what is.
func TestWrongOnesBetweenOthers(t *testing.T) {
	for _, most := range []int{1, 2, 3, 5, 256} {
		h := hold(most)
		for range 4 * most {
			h.more(t, (most+1)/2)
			for _, n := range []int{-1, -2, -most, -most - 1, math.MinInt, math.MinInt32, -1 << 32} {
				h.take(t, n)
			}
			h.add(t, nil)
			h.add(t, []byte{})
			h.take(t, 0)
			h.more(t, most+1)
			h.take(t, (most+2)/2)
		}
		h.take(t, math.MaxInt)
		h.take(t, math.MaxInt)
	}
}

// All rows of a few calls, at all small lengths.
func TestAllShortScripts(t *testing.T) {
	for most := range 5 {
		calls := 2*most + 5 // Add of 0 to most + 1 bytes, Take of -1 to most + 1
		for script := range calls * calls * calls * calls * calls {
			h := hold(most)
			for rest, left := script, 5; left > 0; rest, left = rest/calls, left-1 {
				if call := rest % calls; call < most+2 {
					h.more(t, call)
				} else {
					h.take(t, call-most-3)
				}
			}
		}
	}
}

func TestMixedScripts(t *testing.T) {
	draw := uint32(7)
	next := func(most int) int {
		draw = draw*1664525 + 1013904223
		return int(draw>>8) % most
	}
	for _, most := range []int{1, 2, 3, 10, 100, 256, 1000} {
		h := hold(most)
		for range 2000 {
			h.more(t, next(most+2))
			h.take(t, next(most+3)-1)
		}
		if h.taken < 10*most {
			t.Errorf("of %d: only %d were taken", most, h.taken)
		}
	}
}

func TestTheGreatest(t *testing.T) {
	for _, most := range []int{65535, 65536, 65537, 1 << 20} {
		h := hold(most)
		h.more(t, 0)
		h.more(t, 1<<20)
		h.more(t, 1)
		h.take(t, 0)
		h.take(t, 1)
		h.more(t, 2)
		h.take(t, 40000)
		h.more(t, 39999)
		h.more(t, 2)
		h.take(t, 65534)
		h.more(t, 65534)
		h.take(t, h.most)
		h.more(t, h.most)
		h.take(t, math.MaxInt)
		h.take(t, 1)
	}
}

func TestEveryByteIsAByte(t *testing.T) {
	var all []byte
	for c := range 256 {
		all = append(all, byte(c))
	}
	for _, place := range []int{0, 1, 128, 255} {
		h := hold(256)
		h.more(t, place)
		h.take(t, place)
		h.add(t, all)
		h.take(t, 256)
		h.add(t, make([]byte, 256))
		h.take(t, 256)
	}
}

// P7.3: what is not accepted comes out never, also when there is room again.

func TestWhatIsNotAcceptedIsGone(t *testing.T) {
	for most := range 9 {
		for wait := range most + 1 {
			h := hold(most)
			h.add(t, bytes.Repeat([]byte("w"), wait))
			h.add(t, append(bytes.Repeat([]byte("y"), most-wait), "no more"...))
			h.add(t, []byte("none"))
			for range most {
				h.take(t, 1)
				h.add(t, []byte("xn"))
			}
			h.take(t, most+7)
			if bytes.ContainsAny(h.accepted, "nomre") {
				t.Errorf("of %d: %q was accepted", most, h.accepted)
			}
		}
	}
}

// P3, of this layer's calls: what is handed in stays as it is, its spare room too, and is not kept; what comes out shares nothing with the ring, nor with what else comes out. What one ring has is none of another one's.

func TestWhatIsHandedInStaysAsItIs(t *testing.T) {
	for most := range 9 {
		r := ring.New(most)
		room := row(1, 40)
		for many := range len(room) {
			r.Add(room[:many])
			r.Look()
			r.Take(many % 3)
			r.Add(room[many:])
			r.Take(many % 5)
		}
		if !bytes.Equal(room, row(1, 40)) {
			t.Errorf("of %d: what was handed in became %q", most, room)
		}
	}
}

func TestWhatIsHandedInIsNotKept(t *testing.T) {
	for place := range 8 {
		for many := range 12 {
			r := ring.New(8)
			r.Add(row(0, place))
			r.Take(place)
			room := row(1, 20)
			r.Add(room[:many])
			clear(room)
			want := row(1, min(many, 8))
			if got := r.Look(); !bytes.Equal(got, want) {
				t.Errorf("what waits became %q", got)
			}
			if got := r.Take(8); !bytes.Equal(got, want) {
				t.Errorf("what waited became %q", got)
			}
		}
	}
}

func TestWhatComesOutIsNew(t *testing.T) {
	for place := range 9 {
		for n := range 9 {
			h := hold(8)
			h.more(t, place)
			h.take(t, place)
			h.more(t, 8)
			look := h.r.Look()
			before := h.r.Look()
			overwrite(look)
			h.wantWaits(t)
			want := bytes.Clone(h.waits())
			out := h.r.Take(n)
			h.taken += n
			overwrite(out)
			h.wantWaits(t)
			h.more(t, n) // in the places of those that were taken
			h.take(t, 8)
			h.more(t, 8)
			if !bytes.Equal(before, want) {
				t.Errorf("what Look told became %q", before)
			}
			for _, b := range [][]byte{look, out} {
				if len(bytes.Trim(b, "!")) != 0 {
					t.Errorf("what came out became %q", b)
				}
			}
		}
	}
}

// What came out of a ring may go into it again.
func TestOutAndInAgain(t *testing.T) {
	h := hold(10)
	h.more(t, 6)
	for range 30 {
		h.add(t, h.r.Look())
		b := h.r.Take(5)
		h.taken += 5
		h.add(t, b[:2])
	}
}

func TestTwoRingsAreApart(t *testing.T) {
	one, other := hold(5), hold(5)
	for i := range 40 {
		one.more(t, i%4)
		other.add(t, bytes.Repeat([]byte("-"), i%3))
		one.take(t, i%3)
		other.take(t, i%5)
		one.wantWaits(t)
	}
}

// overwrite writes over a list, its spare room too.
func overwrite(b []byte) {
	for i := range b[:cap(b)] {
		b[:cap(b)][i] = '!'
	}
}
