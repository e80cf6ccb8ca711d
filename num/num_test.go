package num

import (
	"bytes"
	"math"
	"strconv"
	"strings"
	"testing"

	"subway/api"
)

// edges are the numbers at which digits become more, of both bases, and those about them that are still numbers.
func edges() []int64 {
	out := []int64{}
	for _, base := range []int64{10, 128} {
		for n := int64(1); n <= api.MaxNum; n *= base {
			out = append(out, n-1, n, n+1)
		}
	}
	return append(out, 2, 300, 16511, api.MaxNum/2, api.MaxNum-1, api.MaxNum)
}

func beyond() []int64 {
	return []int64{-1, -128, api.MaxNum + 1, api.MaxNum * 128, math.MaxInt64, math.MinInt64}
}

// P1.1, A1.

func TestPutGivesDigits(t *testing.T) {
	for _, c := range []struct {
		n    int64
		want []byte
	}{
		{0, []byte{0}},
		{1, []byte{1}},
		{127, []byte{127}},
		{128, []byte{129, 0}},
		{300, []byte{130, 44}},
		{16383, []byte{255, 127}},
		{16384, []byte{129, 128, 0}},
		{api.MaxNum - 1, []byte{159, 255, 255, 255, 255, 127}},
		{api.MaxNum, []byte{160, 128, 128, 128, 128, 0}},
	} {
		if b := Put(c.n); !bytes.Equal(b, c.want) {
			t.Errorf("Put(%d) is %v, not %v", c.n, b, c.want)
		}
		if n, k, is := Get(c.want); n != c.n || k != len(c.want) || !is {
			t.Errorf("Get(%v) is %d, %d, %v", c.want, n, k, is)
		}
	}
}

func TestPutGivesNothingBeyondTheBounds(t *testing.T) {
	for _, n := range beyond() {
		if b := Put(n); len(b) != 0 {
			t.Errorf("Put(%d) is %v", n, b)
		}
	}
}

func TestGetRefusesWhatIsNoNumber(t *testing.T) {
	for _, b := range [][]byte{
		nil,
		{},
		{128},
		{129},
		{255, 255, 255},
		{128, 0},
		{128, 1},
		{128, 129, 0},
		{128, 128, 128, 128, 128, 128, 128, 0},
		{160, 128, 128, 128, 128, 1},
		{160, 128, 128, 128, 129, 0},
		{161, 128, 128, 128, 128, 0},
		{255, 255, 255, 255, 255, 127},
		{129, 128, 128, 128, 128, 128, 0},
		bytes.Repeat([]byte{255}, 100),
		bytes.Repeat([]byte{128}, 100),
	} {
		if n, k, is := Get(b); n != 0 || k != 0 || is {
			t.Errorf("Get(%v) is %d, %d, %v", b, n, k, is)
		}
	}
}

// Of rows of bytes from about the edges each begins with the bytes of the one number that its digits make, or of none.
func TestGetIsTheInverseOfPutAlone(t *testing.T) {
	some := []byte{0, 1, 44, 126, 127, 128, 129, 130, 254, 255}
	for row := range 10 * 10 * 10 * 10 {
		b := []byte{some[row/1000], some[row/100%10], some[row/10%10], some[row%10]}
		var want, made int64
		many := 0
		for k := 1; k <= len(b) && many == 0; k++ {
			made = made*128 + int64(b[k-1]&127)
			if bytes.Equal(Put(made), b[:k]) {
				want, many = made, k
			}
		}
		if n, k, is := Get(b); n != want || k != many || is != (many > 0) {
			t.Fatalf("Get(%v) is %d, %d, %v, not %d, %d", b, n, k, is, want, many)
		}
	}
}

// P1.1, A2.

func TestTextGivesLengthAndBytes(t *testing.T) {
	for _, many := range []int{0, 1, 2, 127, 128, 254, 255} {
		s := strings.Repeat("\xff", many)
		want := append([]byte{byte(many)}, s...)
		if b := Text(s); !bytes.Equal(b, want) {
			t.Errorf("Text of %d bytes is %v", many, b)
		}
	}
	if b := Text("a\x00é"); string(b) != "\x04a\x00\xc3\xa9" {
		t.Errorf("Text of bytes of all kinds is %q", b)
	}
}

func TestTextGivesNothingBeyondTheBound(t *testing.T) {
	for _, many := range []int{256, 257, 511, 512, 65536} {
		if b := Text(strings.Repeat("a", many)); len(b) != 0 {
			t.Errorf("Text of %d bytes has %d", many, len(b))
		}
	}
}

func TestReadRefusesWhatIsNoText(t *testing.T) {
	for _, b := range [][]byte{
		nil,
		{},
		{1},
		{2, 'a'},
		append([]byte{255}, make([]byte, 254)...),
	} {
		if s, k, is := Read(b); s != "" || k != 0 || is {
			t.Errorf("Read(%v) is %q, %d, %v", b, s, k, is)
		}
	}
}

// P1.1, A3.

func TestDecimalGivesDecimals(t *testing.T) {
	for _, n := range edges() {
		if s := Decimal(n); s != strconv.FormatInt(n, 10) {
			t.Errorf("Decimal(%d) is %q", n, s)
		}
	}
	for _, n := range beyond() {
		if s := Decimal(n); s != "" {
			t.Errorf("Decimal(%d) is %q", n, s)
		}
	}
}

func TestParseRefusesWhatIsNoDecimal(t *testing.T) {
	for _, s := range []string{
		"", "00", "01", "007", "0127", "00000000000000000000000000", "01099511627776",
		"-", "-0", "-1", "+0", "+1", " 1", "1 ", "1 2", "1\n", "1\x00", "\x001", "1_000", "1e3", "0x1", "a", "1a", "a1", "/", ":", "1/", "1:", "٣", "\xff",
		"1099511627777", "1099511627780", "10995116277760", "18446744073709551616", "18446744073709551617", "99999999999999999999999999999999999999",
	} {
		if n, is := Parse(s); n != 0 || is {
			t.Errorf("Parse(%q) is %d, %v", s, n, is)
		}
	}
}

// P1.2.

func TestNumbersThereAndBack(t *testing.T) {
	for _, n := range edges() {
		b := Put(n)
		for _, behind := range [][]byte{nil, {0}, {127}, {128}, {255, 255, 255, 255, 255, 255, 255}} {
			if x, k, is := Get(append(bytes.Clone(b), behind...)); x != n || k != len(b) || !is {
				t.Errorf("%d comes back as %d, %d, %v with %v behind", n, x, k, is, behind)
			}
		}
		for cut := range b {
			if x, k, is := Get(b[:cut]); x != 0 || k != 0 || is {
				t.Errorf("%d, cut to %d bytes, comes back as %d, %d, %v", n, cut, x, k, is)
			}
		}
		if x, is := Parse(Decimal(n)); x != n || !is {
			t.Errorf("%d comes back of its decimals as %d, %v", n, x, is)
		}
	}
}

func TestTextsThereAndBack(t *testing.T) {
	for _, s := range []string{"", "a", "web", "a\x00b", "\xff\xfe", "é", strings.Repeat("ab", 64), strings.Repeat("x", 254), strings.Repeat("y", 255)} {
		b := Text(s)
		for _, behind := range []string{"", "\x00", "z", "\xff\xff\xff"} {
			if x, k, is := Read(append(bytes.Clone(b), behind...)); x != s || k != 1+len(s) || !is {
				t.Errorf("%q comes back as %q, %d, %v with %q behind", s, x, k, is, behind)
			}
		}
		for cut := range b {
			if x, k, is := Read(b[:cut]); x != "" || k != 0 || is {
				t.Errorf("%q, cut to %d bytes, comes back as %q, %d, %v", s, cut, x, k, is)
			}
		}
	}
}

// P1.3.

func TestGreaterNumbersHaveGreaterBytes(t *testing.T) {
	less := func(a, b []byte) bool {
		return len(a) < len(b) || len(a) == len(b) && bytes.Compare(a, b) < 0
	}
	for _, a := range edges() {
		for _, b := range edges() {
			if less(Put(a), Put(b)) != (a < b) {
				t.Errorf("%d has %v, %d has %v", a, Put(a), b, Put(b))
			}
		}
	}
	for n := range int64(40000) {
		if !less(Put(n), Put(n+1)) {
			t.Fatalf("%d has %v, %d has %v", n, Put(n), n+1, Put(n+1))
		}
	}
}

// P3, of this layer's calls: what is handed in stays as it is, its spare room too, and what comes out shares nothing with it.

func TestWhatIsHandedInStaysAsItIs(t *testing.T) {
	room := []byte{130, 44, 9, 9}
	Get(room[:2])
	Read(room[:2])
	if !bytes.Equal(room, []byte{130, 44, 9, 9}) {
		t.Errorf("it became %v", room)
	}
	b := []byte("\x02ab")
	s, _, _ := Read(b)
	b[1] = 'x'
	if s != "ab" {
		t.Errorf("the text that was read became %q", s)
	}
	first := Put(300)
	first[0] = 0
	if again := Put(300); !bytes.Equal(again, []byte{130, 44}) {
		t.Errorf("300's bytes became %v", again)
	}
}
