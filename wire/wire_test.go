package wire_test

import (
	"bytes"
	"math"
	"slices"
	"strings"
	"testing"

	"subway/api"
	"subway/num"
	"subway/wire"
)

// fourteen are the kinds, each at its number, with what it has, in the order of the bytes; there is none at 0.
var fourteen = [15]string{"", "AB", "A", "A", "", "N", "AN", "ANM", "ANM", "AN", "AN", "AB", "B", "", "A"}

// with is a message in which one part is another: word stands in a text, n in a number.
func with(m api.Msg, part rune, word string, n int64) api.Msg {
	switch part {
	case 'A':
		m.A = word
	case 'B':
		m.B = word
	case 'N':
		m.N = n
	case 'M':
		m.M = n
	}
	return m
}

// small is a message of a kind in which nothing that it has is zero.
func small(kind int) api.Msg {
	m := api.Msg{Kind: kind}
	for _, part := range fourteen[kind] {
		m = with(m, part, string(part)+"x", int64(part))
	}
	return m
}

// written are a message's bytes, part by part as the chapter tells them.
func written(m api.Msg) []byte {
	b := []byte{byte(m.Kind)}
	for _, part := range fourteen[m.Kind] {
		switch part {
		case 'A':
			b = append(b, num.Text(m.A)...)
		case 'B':
			b = append(b, num.Text(m.B)...)
		case 'N':
			b = append(b, num.Put(m.N)...)
		case 'M':
			b = append(b, num.Put(m.M)...)
		}
	}
	return b
}

// rightOnes are messages of all kinds, in which each part is each of its edges with each edge of the other ones.
func rightOnes() []api.Msg {
	words := []string{"", "a", "web", "\x00", "a\x00\xff", "é", strings.Repeat("9", 63), strings.Repeat("\xff", 64), strings.Repeat("\x00", 64), strings.Repeat("é", 32)}
	numbers := []int64{0, 1, 10, 127, 128, 300, 16383, 16384, 1 << 30, 1 << 32, api.MaxNum - 1, api.MaxNum}
	out := []api.Msg{}
	for kind := 1; kind <= 14; kind++ {
		row := []api.Msg{{Kind: kind}}
		for _, part := range fourteen[kind] {
			more := []api.Msg{}
			for _, m := range row {
				for i := range max(len(words), len(numbers)) {
					more = append(more, with(m, part, words[i%len(words)], numbers[i%len(numbers)]))
				}
			}
			row = more
		}
		out = append(out, row...)
	}
	return out
}

func wantRight(t *testing.T, m api.Msg, want []byte) {
	t.Helper()
	if !wire.Right(m) {
		t.Errorf("%#v is not right", m)
	}
	if b := wire.Put(m); !bytes.Equal(b, want) {
		t.Errorf("Put of %#v is %q, not %q", m, b, want)
	}
	if got, is := wire.Get(want); got != m || !is {
		t.Errorf("Get of %q is %#v, %v, not %#v", want, got, is, m)
	}
}

func wantWrong(t *testing.T, m api.Msg) {
	t.Helper()
	if wire.Right(m) {
		t.Errorf("%.200q of kind %d, with %d and %d, is right", []string{m.A, m.B}, m.Kind, m.N, m.M)
	}
	if b := wire.Put(m); len(b) != 0 {
		t.Errorf("Put of %.200q of kind %d, with %d and %d, is %.200q", []string{m.A, m.B}, m.Kind, m.N, m.M, b)
	}
}

func wantNone(t *testing.T, b []byte) {
	t.Helper()
	if m, is := wire.Get(b); m != (api.Msg{}) || is {
		t.Errorf("Get of %.200q is %#v, %v", b, m, is)
	}
}

// P5.1, E1 and E2: what is right.

func TestAMessageOfEachKind(t *testing.T) {
	for _, c := range []struct {
		m    api.Msg
		want string
	}{
		{api.Msg{Kind: api.Hello, A: "ann", B: "key"}, "\x01\x03ann\x03key"},
		{api.Msg{Kind: api.Nonce, A: "00ff"}, "\x02\x0400ff"},
		{api.Msg{Kind: api.Proof, A: strings.Repeat("0f", 32)}, "\x03\x40" + strings.Repeat("0f", 32)},
		{api.Msg{Kind: api.Welcome}, "\x04"},
		{api.Msg{Kind: api.Refuse, N: int64(api.ErrProof)}, "\x05\x65"},
		{api.Msg{Kind: api.Claim, A: "web", N: 10}, "\x06\x03web\x0a"},
		{api.Msg{Kind: api.Granted, A: "web", N: 1, M: 300}, "\x07\x03web\x01\x82\x2c"},
		{api.Msg{Kind: api.Renew, A: "web", N: 128, M: 10}, "\x08\x03web\x81\x00\x0a"},
		{api.Msg{Kind: api.Release, A: "web", N: 2}, "\x09\x03web\x02"},
		{api.Msg{Kind: api.Gone, A: "web-1", N: 3}, "\x0a\x05web-1\x03"},
		{api.Msg{Kind: api.Call, A: "web", B: "7-ab"}, "\x0b\x03web\x047-ab"},
		{api.Msg{Kind: api.Ticket, B: "7-ab"}, "\x0c\x047-ab"},
		{api.Msg{Kind: api.Beat}, "\x0d"},
		{api.Msg{Kind: api.Reach, A: "web"}, "\x0e\x03web"},
	} {
		wantRight(t, c.m, []byte(c.want))
	}
}

func TestAllThatAKindHasMayBeZero(t *testing.T) {
	for kind := 1; kind <= 14; kind++ {
		wantRight(t, api.Msg{Kind: kind}, append([]byte{byte(kind)}, make([]byte, len(fourteen[kind]))...))
	}
}

func TestWordsOf0To64Bytes(t *testing.T) {
	for kind := 1; kind <= 14; kind++ {
		for _, part := range fourteen[kind] {
			for many := range 65 {
				m := with(small(kind), part, strings.Repeat("\xfe", many), int64(many))
				wantRight(t, m, written(m))
			}
		}
	}
}

func TestEdgesTogether(t *testing.T) {
	for _, m := range rightOnes() {
		wantRight(t, m, written(m))
	}
}

// P5.1, E1: what is not right.

func TestOtherKindsAreNone(t *testing.T) {
	for _, kind := range []int{math.MinInt, math.MinInt32, -256, -255, -15, -14, -2, -1, 0, 15, 16, 17, 64, 127, 128, 255, 256, 257, 256 + 14, 1 << 16, 1<<16 + 1, 1 << 32, 1<<32 + 4, math.MaxInt} {
		wantWrong(t, api.Msg{Kind: kind})
		wantWrong(t, api.Msg{Kind: kind, A: "a"})
		wantWrong(t, api.Msg{Kind: kind, B: "b"})
		wantWrong(t, api.Msg{Kind: kind, N: 1})
		wantWrong(t, api.Msg{Kind: kind, A: "a", B: "b", N: 1, M: 1})
	}
}

func TestWhatAKindHasNotIsZero(t *testing.T) {
	for kind := 1; kind <= 14; kind++ {
		for _, part := range "ABNM" {
			if strings.ContainsRune(fourteen[kind], part) {
				continue
			}
			for _, m := range []api.Msg{{Kind: kind}, small(kind)} {
				for i, word := range []string{"x", "\x00", strings.Repeat("x", 64), strings.Repeat("x", 65), strings.Repeat("x", 256), strings.Repeat("x", 512)} {
					n := []int64{1, 256, api.MaxNum, api.MaxNum + 1, -1, math.MinInt64}[i]
					wantWrong(t, with(m, part, word, n))
				}
			}
		}
	}
}

func TestLongerWordsAreNone(t *testing.T) {
	for kind := 1; kind <= 14; kind++ {
		for _, part := range fourteen[kind] {
			for _, many := range []int{65, 66, 127, 128, 192, 254, 255, 256, 257, 256 + 64, 511, 512, 1 << 16, 1<<16 + 1} {
				if part == 'A' || part == 'B' {
					wantWrong(t, with(small(kind), part, strings.Repeat("a", many), 0))
					wantWrong(t, with(small(kind), part, strings.Repeat("é", many/2+many%2), 0)) // 33 letters of two bytes are too long
				}
			}
		}
	}
}

func TestNumbersBeyondTheBoundsAreNone(t *testing.T) {
	for kind := 1; kind <= 14; kind++ {
		for _, part := range fourteen[kind] {
			for _, n := range []int64{math.MinInt64, -api.MaxNum, -256, -2, -1, api.MaxNum + 1, api.MaxNum + 2, api.MaxNum * 128, math.MaxInt64 - 1, math.MaxInt64} {
				if part == 'N' || part == 'M' {
					wantWrong(t, with(small(kind), part, "", n))
				}
			}
		}
	}
}

// P5.1, E2: bytes that are none.

func TestNoBytesAreNone(t *testing.T) {
	wantNone(t, nil)
	wantNone(t, []byte{})
}

func TestBytesOfOtherKindsAreNone(t *testing.T) {
	for kind := range 256 {
		if kind >= 1 && kind <= 14 {
			continue
		}
		wantNone(t, []byte{byte(kind)})
		for like := 1; like <= 14; like++ {
			b := written(small(like))
			b[0] = byte(kind)
			wantNone(t, b)
		}
	}
}

func TestBytesOfLongerWordsAreNone(t *testing.T) {
	for kind := 1; kind <= 14; kind++ {
		for _, part := range fourteen[kind] {
			if part != 'A' && part != 'B' {
				continue
			}
			for many := 65; many <= 255; many++ {
				wantNone(t, written(with(small(kind), part, strings.Repeat("a", many), 0)))
			}
		}
	}
}

// Each part of a kind, in its place, as bytes of a number that is none.
func TestBytesOfWrongNumbersAreNone(t *testing.T) {
	for _, wrong := range []string{
		"\x80\x00", "\x80\x01", "\x80\x0a", "\x80\x7f", "\x80\x80\x00", "\x80\x80\x01", "\x80\x82\x2c", "\x80\xa0\x80\x80\x80\x80\x00", // in more bytes than it needs
		"\xa0\x80\x80\x80\x80\x01", "\xa0\x80\x80\x80\x81\x00", "\xff\xff\xff\xff\xff\x7f", "\x81\x80\x80\x80\x80\x80\x00", "\xff\xff\xff\xff\xff\xff\xff\xff\x7f", // beyond the bound
		"", "\x80", "\x81", "\xff\xff", "\xa0\x80\x80\x80\x80", // without an end
	} {
		for kind := 1; kind <= 14; kind++ {
			front := written(api.Msg{Kind: kind})
			for at, part := range fourteen[kind] {
				if part == 'N' || part == 'M' {
					wantNone(t, slices.Concat(front[:1+at], []byte(wrong), front[2+at:]))
				}
			}
		}
	}
	wantRight(t, api.Msg{Kind: api.Granted, N: api.MaxNum}, []byte("\x07\x00\xa0\x80\x80\x80\x80\x00\x00")) // as these, but right
}

func TestLongRowsOfBytesAreNone(t *testing.T) {
	for c := range 256 {
		wantNone(t, bytes.Repeat([]byte{byte(c)}, 1<<12))
	}
	for kind := range 16 {
		wantNone(t, append([]byte{byte(kind)}, make([]byte, 1<<20)...))
	}
}

// P5.2.

func TestWhatIsCutIsNone(t *testing.T) {
	for _, m := range rightOnes() {
		b := wire.Put(m)
		for cut := range b {
			if got, is := wire.Get(b[:cut]); got != (api.Msg{}) || is {
				t.Fatalf("%q, cut to %d bytes, is %#v, %v", b, cut, got, is)
			}
		}
	}
}

func TestWhatHasMoreIsNone(t *testing.T) {
	for _, m := range rightOnes() {
		b := wire.Put(m)
		for _, behind := range []string{"\x00", "\x01", "\x7f", "\x80", "\xff", "\x00\x00", "\x80\x00", string(b)} {
			if got, is := wire.Get(append(bytes.Clone(b), behind...)); got != (api.Msg{}) || is {
				t.Fatalf("%q, with %q behind, is %#v, %v", b, behind, got, is)
			}
		}
	}
	for kind := 1; kind <= 14; kind++ {
		for c := range 256 {
			wantNone(t, append(written(small(kind)), byte(c)))
		}
	}
}

// Of all short rows of some bytes, those of which a message is read are its Put: no message has two rows of bytes.
func TestGetIsTheInverseOfPutAlone(t *testing.T) {
	some := []byte{0, 1, 2, 3, 4, 5, 7, 8, 11, 12, 14, 15, 65, 127, 128, 129, 255}
	for many := 1; many <= 4; many++ {
		rows := 1
		for range many {
			rows *= len(some)
		}
		for row := range rows {
			b := make([]byte, many)
			for i, rest := 0, row; i < many; i, rest = i+1, rest/len(some) {
				b[i] = some[rest%len(some)]
			}
			m, is := wire.Get(b)
			if is && (!wire.Right(m) || !bytes.Equal(wire.Put(m), b)) || !is && m != (api.Msg{}) {
				t.Fatalf("Get of %v is %#v, %v, of which Put is %v", b, m, is, wire.Put(m))
			}
		}
	}
}

func TestMessagesAreApart(t *testing.T) {
	of := map[string]api.Msg{}
	for _, m := range rightOnes() {
		b := string(wire.Put(m))
		if other, is := of[b]; is && other != m {
			t.Errorf("%#v and %#v are both %q", m, other, b)
		}
		of[b] = m
	}
}

// P3, of this layer's calls: what is handed in stays as it is, its spare room too, and what comes out shares nothing with it.

func TestWhatIsHandedInStaysAsItIs(t *testing.T) {
	room := []byte("\x07\x01a\x01\x02\x03\x04")
	for many := range len(room) + 1 {
		wire.Get(room[:many])
	}
	if string(room) != "\x07\x01a\x01\x02\x03\x04" {
		t.Errorf("it became %q", room)
	}
	m, _ := wire.Get(room[:5])
	room[2] = 'x'
	if m != (api.Msg{Kind: api.Granted, A: "a", N: 1, M: 2}) {
		t.Errorf("the message that was read became %#v", m)
	}
	first := wire.Put(m)
	clear(first[:cap(first)])
	if again := wire.Put(m); string(again) != "\x07\x01a\x01\x02" {
		t.Errorf("its bytes became %q", again)
	}
}
