package frame_test

import (
	"bytes"
	"slices"
	"strings"
	"testing"

	"subway/api"
	"subway/frame"
)

// row is many bytes, no two alike that stand beside each other.
func row(many int) []byte {
	b := make([]byte, many)
	for i := range b {
		b[i] = byte(7*i + many)
	}
	return b
}

// framed is the frame of bytes, as the chapter tells it.
func framed(b []byte) []byte {
	return slices.Concat([]byte{170, byte(len(b))}, b)
}

// stream is bytes, and what they are cut to.
type stream struct {
	b    []byte
	all  [][]byte
	many int
	err  api.Errno
}

// of is a stream of frames, and of what stands behind them, which begins none that is whole.
func of(behind string, err api.Errno, all ...[]byte) stream {
	s := stream{all: all, err: err}
	for _, one := range all {
		s.b = append(s.b, framed(one)...)
	}
	s.many = len(s.b)
	s.b = append(s.b, behind...)
	return s
}

// wrongOnes are bytes that begin no frame, whatever comes behind them.
var wrongOnes = []string{
	"\x00", "\xa9", "\xab", "\x2a", "\xff", "\x00\xaa\x01a", "\x01\xaa", "\xab\x01a", "\x55\x01a",
	"\xaa\x00", "\xaa\x00\xaa\x01a", "\xaa\x00a", "\xaa\xc9", "\xaa\xc9a", "\xaa\xca", "\xaa\xff", "\xaa\xc9" + strings.Repeat("x", 201), "\xaa\xff" + strings.Repeat("\xaa\x01", 128),
}

// begunOnes are bytes that may be the beginning of a frame, and are no whole one.
var begunOnes = []string{
	"", "\xaa", "\xaa\x01", "\xaa\x02a", "\xaa\x02\xaa", "\xaa\x02\x00", "\xaa\xc8", "\xaa\xc8" + strings.Repeat("\x00", 199), "\xaa\xaa", "\xaa\xaa\xaa\x01a", "\xaa\xc7" + strings.Repeat("\xaa", 198),
}

// ahead are rows of what is framed, of few and many bytes, some of which look like frames.
func ahead() [][][]byte {
	return [][][]byte{
		{},
		{{7}},
		{row(200)},
		{{170}},
		{{170, 1, 7}},
		{{170, 0}, {0}},
		{{'a'}, {'b', 'c'}},
		{{1}, {1}, {1}},
		{row(3), row(1), row(5)},
		{row(200), row(1), row(200)},
		{framed(row(198)), {170, 201}, row(2)},
		{{0}, {170, 170}, {255, 170, 255}, row(127), row(128)},
	}
}

// streams are all of these, with nothing behind, with a frame that is begun, with an error.
func streams() []stream {
	var out []stream
	for _, all := range ahead() {
		for _, behind := range begunOnes {
			out = append(out, of(behind, api.OK, all...))
		}
		for _, behind := range wrongOnes {
			out = append(out, of(behind, api.ErrFrame, all...))
		}
	}
	return out
}

func alike(one, other [][]byte) bool {
	return slices.EqualFunc(one, other, bytes.Equal)
}

func wantFirst(t *testing.T, b, want []byte, wantMany int, wantErr api.Errno) {
	t.Helper()
	if got, many, err := frame.First(b); !bytes.Equal(got, want) || many != wantMany || err != wantErr {
		t.Errorf("First of %.250q is %.250q, %d, %d, not %.250q, %d, %d", b, got, many, err, want, wantMany, wantErr)
	}
}

func wantCut(t *testing.T, s stream) {
	t.Helper()
	if all, many, err := frame.Cut(s.b); !alike(all, s.all) || many != s.many || err != s.err {
		t.Errorf("Cut of %.250q is %.250q, %d, %d, not %.250q, %d, %d", s.b, all, many, err, s.all, s.many, s.err)
	}
}

// wantPieces has bytes come in pieces that end at these places, and at the end: what is left of them is kept.
func wantPieces(t *testing.T, s stream, ends []int) {
	t.Helper()
	var kept []byte
	var all [][]byte
	many, last := 0, 0
	for _, end := range append(slices.Clone(ends), len(s.b)) {
		kept = append(kept, s.b[last:end]...)
		last = end
		some, went, err := frame.Cut(kept)
		all = append(all, some...)
		many += went
		kept = kept[went:]
		if seen := s.err != api.OK && end >= seenAt(s); seen && err != api.ErrFrame || !seen && err != api.OK {
			t.Fatalf("Cut of %.250q, in pieces up to %v, has the error %d at %d", s.b, ends, err, end)
		}
	}
	if !alike(all, s.all) || many != s.many || !bytes.Equal(kept, s.b[s.many:]) {
		t.Fatalf("Cut of %.250q, in pieces up to %v, is %.250q, %d, and %.250q is left", s.b, ends, all, many, kept)
	}
}

// seenAt is how many bytes of a stream must have come for its error to be seen.
func seenAt(s stream) int {
	if s.b[s.many] != 170 {
		return s.many + 1
	}
	return s.many + 2
}

// P6.1, F1.

func TestAFrameOfEachLength(t *testing.T) {
	for many := 1; many <= 200; many++ {
		for _, b := range [][]byte{row(many), make([]byte, many), bytes.Repeat([]byte{170}, many), bytes.Repeat([]byte{255}, many)} {
			got := frame.Put(b)
			if len(got) != many+2 || got[0] != 170 || got[1] != byte(many) || !bytes.Equal(got[2:], b) {
				t.Errorf("Put of %q is %q", b, got)
			}
		}
	}
	if got := frame.Put([]byte{7}); !bytes.Equal(got, []byte{170, 1, 7}) {
		t.Errorf("Put of 7 is %v", got)
	}
}

func TestNoFrameOfNoBytes(t *testing.T) {
	for _, b := range [][]byte{nil, {}, row(9)[:0]} {
		if got := frame.Put(b); len(got) != 0 {
			t.Errorf("Put of no bytes is %q", got)
		}
	}
}

func TestNoFrameOfTooManyBytes(t *testing.T) {
	for _, many := range []int{201, 202, 254, 255, 256, 257, 300, 456, 457, 511, 512, 513, 1 << 16, 1<<16 + 1, 1<<16 + 200, 1 << 20} {
		if got := frame.Put(row(many)); len(got) != 0 {
			t.Errorf("Put of %d bytes is %d bytes", many, len(got))
		}
	}
}

// P6.1, F2.

func TestTheFirstFrame(t *testing.T) {
	for many := 1; many <= 200; many++ {
		b := row(many)
		for _, behind := range []string{"", "x", "\x00", "\xaa", "\xaa\x00", "\xaa\x01a", "\xaa\xc9", strings.Repeat("y", 300)} {
			wantFirst(t, append(framed(b), behind...), b, many+2, api.OK)
		}
	}
}

func TestAFrameThatIsCutIsNothing(t *testing.T) {
	for many := 1; many <= 200; many++ {
		b := framed(row(many))
		for cut := range b {
			wantFirst(t, b[:cut], nil, 0, api.OK)
			wantCut(t, stream{b: b[:cut]})
		}
	}
	wantFirst(t, nil, nil, 0, api.OK)
	wantCut(t, stream{})
}

func TestAnotherFirstByteIsAnError(t *testing.T) {
	for c := range 256 {
		if c == 170 {
			continue
		}
		for _, behind := range []string{"", "\x00", "\x01", "\x01a", "\x02a", "\xc8", "\xc9", "\xaa", "\xaa\x01a", "\x01a\xaa\x01b"} {
			wantFirst(t, append([]byte{byte(c)}, behind...), nil, 0, api.ErrFrame)
			wantCut(t, of(string([]byte{byte(c)})+behind, api.ErrFrame))
		}
	}
}

// All second bytes, with as few bytes behind them as none, and more than any frame has.
func TestEachSecondByte(t *testing.T) {
	all := row(260)
	all[0] = 170
	for second := range 256 {
		all[1] = byte(second)
		for many := 2; many <= len(all); many++ {
			switch {
			case second == 0 || second > 200:
				wantFirst(t, all[:many], nil, 0, api.ErrFrame)
			case many < second+2:
				wantFirst(t, all[:many], nil, 0, api.OK)
			default:
				wantFirst(t, all[:many], all[2:second+2], second+2, api.OK)
			}
		}
	}
}

// P6.1, F3.

func TestCut(t *testing.T) {
	for _, s := range streams() {
		wantCut(t, s)
	}
	wantCut(t, stream{[]byte("\xaa\x01a\xaa\x02bc\xaa\x03d"), [][]byte{[]byte("a"), []byte("bc")}, 7, api.OK})
	wantCut(t, stream{[]byte("\xaa\x01ax"), [][]byte{[]byte("a")}, 3, api.ErrFrame})
	wantCut(t, stream{[]byte("\xaa\x01a\xaa\x00\xaa\x01b"), [][]byte{[]byte("a")}, 3, api.ErrFrame})
	wantCut(t, stream{[]byte("\xaa\x01a\xaa\x02bc\xaa\xc9"), [][]byte{[]byte("a"), []byte("bc")}, 7, api.ErrFrame})
}

// Cut is First, again and again: held against that at all short rows of bytes of which frames and errors are made.
func TestCutIsFirstAgainAndAgain(t *testing.T) {
	some := []byte{170, 0, 1, 2, 200, 201}
	for many := range 8 {
		rows := 1
		for range many {
			rows *= len(some)
		}
		for row := range rows {
			s := stream{b: make([]byte, many)}
			for i, rest := 0, row; i < many; i, rest = i+1, rest/len(some) {
				s.b[i] = some[rest%len(some)]
			}
			for {
				one, went, err := frame.First(s.b[s.many:])
				if went == 0 {
					s.err = err
					break
				}
				s.all = append(s.all, one)
				s.many += went
			}
			wantCut(t, s)
		}
	}
}

func TestManyFrames(t *testing.T) {
	many := 1 << 19
	b := bytes.Repeat([]byte{170, 1, 7}, many)
	for _, behind := range []string{"", "\xaa\x02x", "\xaa\xc9"} {
		all, went, err := frame.Cut(append(b, behind...))
		if len(all) != many || went != 3*many || (err == api.ErrFrame) != (behind == "\xaa\xc9") {
			t.Errorf("Cut of %d frames, with %q behind, is %d, %d, %d", many, behind, len(all), went, err)
		}
		for _, one := range all {
			if len(one) != 1 || one[0] != 7 {
				t.Fatalf("one of them has %q", one)
			}
		}
	}
}

// P6.2.

func TestThereAndBack(t *testing.T) {
	all := ahead()
	var rising, falling [][]byte
	for many := 1; many <= 200; many++ {
		all = append(all, [][]byte{row(many)}, [][]byte{row(many), row(201 - many), row(many)})
		rising, falling = append(rising, row(many)), append(falling, row(201-many))
	}
	for _, want := range append(all, rising, falling) {
		var b []byte
		for _, one := range want {
			b = append(b, frame.Put(one)...)
		}
		got, many, err := frame.Cut(b)
		if !alike(got, want) || many != len(b) || err != api.OK {
			t.Errorf("%.250q, framed, is cut to %.250q, %d, %d", want, got, many, err)
		}
		if len(want) == 0 {
			continue
		}
		if one, many, err := frame.First(b); !bytes.Equal(one, want[0]) || many != len(want[0])+2 || err != api.OK {
			t.Errorf("the first of %.250q, framed, is %.250q, %d, %d", want, one, many, err)
		}
	}
}

// What may not be framed leaves nothing between frames.
func TestWhatIsNotFramedIsNotCut(t *testing.T) {
	var b []byte
	for _, one := range [][]byte{nil, {1}, row(201), {}, {2}, row(456), row(200)} {
		b = append(b, frame.Put(one)...)
	}
	if all, many, err := frame.Cut(b); !alike(all, [][]byte{{1}, {2}, row(200)}) || many != len(b) || err != api.OK {
		t.Errorf("it is cut to %.250q, %d, %d", all, many, err)
	}
}

// P6.3.

func TestPiecesOfOneLength(t *testing.T) {
	for _, s := range streams() {
		for long := 1; long <= len(s.b)+1; long++ {
			var ends, twice []int
			for end := long; end < len(s.b); end += long {
				ends = append(ends, end)
				twice = append(twice, end-1, end, end) // a piece of one byte, and one of none
			}
			wantPieces(t, s, ends)
			wantPieces(t, s, twice)
		}
	}
}

func TestTwoPieces(t *testing.T) {
	for _, s := range streams() {
		for end := range len(s.b) + 1 {
			wantPieces(t, s, []int{end})
			wantPieces(t, s, []int{0, end, end})
		}
	}
}

// All ways in which short rows of bytes may come in pieces.
func TestAllPieces(t *testing.T) {
	for _, s := range streams() {
		if len(s.b) == 0 || len(s.b) > 12 {
			continue
		}
		for ways := range 1 << (len(s.b) - 1) {
			var ends []int
			for i := 1; i < len(s.b); i++ {
				if ways>>(i-1)&1 == 1 {
					ends = append(ends, i)
				}
			}
			wantPieces(t, s, ends)
		}
	}
}

func TestPiecesOfMixedLengths(t *testing.T) {
	draw := uint32(1)
	for _, s := range streams() {
		for _, most := range []uint32{3, 9, 205, 400} {
			var ends []int
			for end := 0; end <= len(s.b); {
				ends = append(ends, end)
				draw = draw*1664525 + 1013904223
				end += int(draw >> 16 % most) // 0 at times
			}
			wantPieces(t, s, ends)
		}
	}
}

// P3, of this layer's calls: what is handed in stays as it is, its spare room too, and what comes out shares nothing with it, nor with what else comes out.

func TestWhatIsHandedInStaysAsItIs(t *testing.T) {
	for _, s := range streams() {
		room := append(bytes.Clone(s.b), "\xaa\x01x spare"...)
		want := bytes.Clone(room)
		for many := range len(room) + 1 {
			frame.Put(room[:many])
			frame.First(room[:many])
			frame.Cut(room[:many])
		}
		if !bytes.Equal(room, want) {
			t.Errorf("%.250q became %.250q", want, room)
		}
	}
}

func TestWhatComesOutIsNew(t *testing.T) {
	room := append(slices.Concat(framed(row(3)), framed(row(200)), framed(row(1))), "spare"...)
	want := bytes.Clone(room)
	b := room[:len(room)-5]
	put, again := frame.Put(b[:9]), frame.Put(b[:9])
	first, _, _ := frame.First(b)
	all, _, _ := frame.Cut(b)
	more, _, _ := frame.Cut(b)
	for i, one := range append(all, put, first) {
		for j := range one[:cap(one)] {
			one[:cap(one)][j] = byte(i)
		}
	}
	if !bytes.Equal(room, want) {
		t.Errorf("what was handed in became %q", room)
	}
	clear(room)
	if !bytes.Equal(again, framed(want[:9])) || !alike(more, [][]byte{row(3), row(200), row(1)}) {
		t.Errorf("what else came out became %q, %q", again, more)
	}
	for i, one := range append(all, put, first) {
		if !bytes.Equal(one, bytes.Repeat([]byte{byte(i)}, len(one))) {
			t.Errorf("what came out became %q", one)
		}
	}
}
