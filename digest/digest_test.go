package digest

import (
	"bytes"
	"crypto/sha256"
	"encoding/hex"
	"strings"
	"testing"
)

// rising are so many bytes, each other than those about it.
func rising(many int) []byte {
	b := make([]byte, many)
	for i := range b {
		b[i] = byte(i*167 + i/256 + 13)
	}
	return b
}

// P2.1, B1.

func TestSumsThatAreKnown(t *testing.T) {
	for _, c := range []struct {
		in, want string
	}{
		{"", "e3b0c44298fc1c149afbf4c8996fb92427ae41e4649b934ca495991b7852b855"},
		{"a", "ca978112ca1bbdcafac231b39a23dc4da786eff8147c4e72b9807785afee48bb"},
		{"abc", "ba7816bf8f01cfea414140de5dae2223b00361a396177a9cb410ff61f20015ad"},
		{"The quick brown fox jumps over the lazy dog", "d7a8fbb307d7809469ca9abcb0082e4f8d5651e46d3cdb762d02d0bf37c9e592"},
		{"abcdbcdecdefdefgefghfghighijhijkijkljklmklmnlmnomnopnopq", "248d6a61d20638b8e5c026930c3e6039a33ce45964ff2167f6ecedd419db06c1"},
		{"abcdefghbcdefghicdefghijdefghijkefghijklfghijklmghijklmnhijklmnoijklmnopjklmnopqklmnopqrlmnopqrsmnopqrstnopqrstu", "cf5b16a778af8380036ce59e7b0492370b249b11e8f07a51afac45037afee9d1"},
		{strings.Repeat("a", 55), "9f4390f8d30c2dd92ec9f095b65e2b9ae9b0a925a5258e241c9f1e910f734318"},
		{strings.Repeat("a", 56), "b35439a4ac6f0948b6d6f9e3c6af0f5f590ce20f1bde7090ef7970686ec6738a"},
		{strings.Repeat("a", 63), "7d3e74a05d7db15bce4ad9ec0658ea98e3f06eeecf16b4c6fff2da457ddc2f34"},
		{strings.Repeat("a", 64), "ffe054fe7ae0cb6dc65c3af9b61d5209f439851db43d0ba5997337df154668eb"},
		{strings.Repeat("a", 65), "635361c48bb9eab14198e76ea8ab7f1a41685d6ad62aa9146d301d4f17eb0ae0"},
		{strings.Repeat("a", 119), "31eba51c313a5c08226adf18d4a359cfdfd8d2e816b13f4af952f7ea6584dcfb"},
		{strings.Repeat("a", 120), "2f3d335432c70b580af0e8e1b3674a7c020d683aa5f73aaaedfdc55af904c21c"},
		{strings.Repeat("a", 128), "6836cf13bac400e9105071cd6af47084dfacad4e5e302c94bfed24e013afb73e"},
		{strings.Repeat("a", 1000000), "cdc76e5c9914fb9281a1c7e284d73e67f1809a48a497200e046d39ccc7112cd0"},
	} {
		sum := Sum([]byte(c.in))
		if got := hex.EncodeToString(sum[:]); got != c.want {
			t.Errorf("the sum of %d bytes is %s, not %s", len(c.in), got, c.want)
		}
	}
}

func TestSumsOfAllLengthsAboutTheEndsOfBlocks(t *testing.T) {
	for many := range 5*64 + 2 {
		if b := rising(many); Sum(b) != sha256.Sum256(b) {
			t.Errorf("the sum of %d bytes is %x, not %x", many, Sum(b), sha256.Sum256(b))
		}
	}
	for _, many := range []int{8191, 8192, 8193, 65535, 65536, 1 << 21} { // of these the number of bits takes more bytes
		if b := rising(many); Sum(b) != sha256.Sum256(b) {
			t.Errorf("the sum of %d bytes is wrong", many)
		}
	}
}

// That many bytes would take the test seconds: so it asks what is put behind them.
func TestNumberOfBitsOfVeryManyBytes(t *testing.T) {
	for all, want := range map[int]string{
		0:         "\x00\x00\x00\x00\x00\x00\x00\x00",
		1<<29 - 1: "\x00\x00\x00\x00\xff\xff\xff\xf8",
		1 << 29:   "\x00\x00\x00\x01\x00\x00\x00\x00",
		1<<31 - 1: "\x00\x00\x00\x03\xff\xff\xff\xf8",
	} {
		left := make([]byte, all%block)
		if end := ending(left, all); string(end[len(end)-size:]) != want {
			t.Errorf("behind %d bytes stands %v", all, end)
		}
	}
}

func TestSumsOfSingleBitsAreAllOther(t *testing.T) {
	seen := map[[32]byte]int{Sum(make([]byte, 128)): -1}
	for bit := range 128 * 8 {
		b := make([]byte, 128)
		b[bit/8] = 1 << (bit % 8)
		sum := Sum(b)
		if other, there := seen[sum]; there {
			t.Errorf("bits %d and %d have one sum", other, bit)
		}
		if sum != sha256.Sum256(b) {
			t.Errorf("the sum with bit %d is wrong", bit)
		}
		seen[sum] = bit
	}
}

// What the end is made up of is no part of the bytes: with these written out there is another sum.
func TestSumTellsTheEndFromTheBytes(t *testing.T) {
	for _, pair := range [][2][]byte{
		{nil, {0}},
		{nil, {128}},
		{{1}, {1, 0}},
		{{1}, {1, 128}},
		{make([]byte, 63), make([]byte, 64)},
		{make([]byte, 64), make([]byte, 128)},
	} {
		if Sum(pair[0]) == Sum(pair[1]) {
			t.Errorf("%v and %v have one sum", pair[0], pair[1])
		}
	}
}

// P2.1, B2.

func TestHexGivesDigits(t *testing.T) {
	for _, c := range []struct {
		b    []byte
		want string
	}{
		{nil, ""},
		{[]byte{}, ""},
		{[]byte{0}, "00"},
		{[]byte{1}, "01"},
		{[]byte{16}, "10"},
		{[]byte{9, 10, 15}, "090a0f"},
		{[]byte{0x90, 0xa0, 0xf0, 0xff}, "90a0f0ff"},
		{[]byte{0, 255, 18}, "00ff12"},
		{[]byte{0x01, 0x23, 0x45, 0x67, 0x89, 0xab, 0xcd, 0xef}, "0123456789abcdef"},
	} {
		if s := Hex(c.b); s != c.want {
			t.Errorf("Hex(%v) is %q", c.b, s)
		}
	}
}

func TestUnhexGivesBytes(t *testing.T) {
	for s, want := range map[string]string{
		"":                 "",
		"00":               "\x00",
		"0f":               "\x0f",
		"f0":               "\xf0",
		"00ff":             "\x00\xff",
		"9a":               "\x9a",
		"a9":               "\xa9",
		"0123456789abcdef": "\x01\x23\x45\x67\x89\xab\xcd\xef",
	} {
		if b, is := Unhex(s); string(b) != want || !is {
			t.Errorf("Unhex(%q) is %v, %v", s, b, is)
		}
	}
}

func TestUnhexRefusesWhatIsNoHex(t *testing.T) {
	for _, s := range []string{
		"0", "f", "000", "00f", "0123456789abcde", // odd numbers
		"A0", "0A", "F0", "0F", "AB", "FF", "aB", "00FF", "FF00", // capitals
		"g0", "0g", "z0", "0z", "0g00", "000g", "g000", "gg", "0x", "0x00", // no digits
		"/0", "0/", ":0", "0:", "`0", "0`", "@0", "0@", "G0", "0G", // next to digits
		" 00", "00 ", "0 ", " 0", "0 0", "00\n", "0\n", "-1", "+1", "\x000", "0\x00", "\x00\x00",
		"é", "0é", "\xff\xff", "0\xff", "\xb00", "٣", "００",
	} {
		if b, is := Unhex(s); len(b) != 0 || is {
			t.Errorf("Unhex(%q) is %v, %v", s, b, is)
		}
	}
}

// Of two letters each is one byte's digits, or of none.
func TestUnhexOfAllPairsOfLetters(t *testing.T) {
	of := map[string]byte{}
	for c := range 256 {
		of[Hex([]byte{byte(c)})] = byte(c)
	}
	if len(of) != 256 {
		t.Fatalf("256 bytes have %d rows of digits", len(of))
	}
	for high := range 256 {
		for low := range 256 {
			s := string([]byte{byte(high), byte(low)})
			want, there := of[s]
			b, is := Unhex(s)
			if is != there || is && (len(b) != 1 || b[0] != want) || !is && len(b) != 0 {
				t.Fatalf("Unhex(%q) is %v, %v", s, b, is)
			}
		}
	}
}

// P2.2.

func TestThereAndBack(t *testing.T) {
	for many := range 300 {
		b := rising(many)
		s := Hex(b)
		if s != hex.EncodeToString(b) {
			t.Errorf("Hex(%v) is %q", b, s)
		}
		if back, is := Unhex(s); !bytes.Equal(back, b) || !is {
			t.Errorf("%v comes back as %v, %v", b, back, is)
		}
	}
}

func TestBackAndThere(t *testing.T) {
	letters := "0123456789abcdefAFg/:` \x00"
	for row := range len(letters) * len(letters) * len(letters) {
		s := string([]byte{letters[row%len(letters)], letters[row/len(letters)%len(letters)], '5', letters[row/len(letters)/len(letters)]})
		b, is := Unhex(s)
		if is && Hex(b) != s {
			t.Errorf("%q comes back as %q", s, Hex(b))
		}
		if is != (strings.Trim(s, "0123456789abcdef") == "") {
			t.Errorf("Unhex(%q) is %v, %v", s, b, is)
		}
	}
}

// P3, of this layer's calls: what is handed in stays as it is, its spare room too, and what comes out shares nothing with it.

func TestWhatIsHandedInStaysAsItIs(t *testing.T) {
	for _, many := range []int{0, 1, 55, 56, 64, 100, 128} {
		room := rising(300)
		first := Sum(room[:many])
		Hex(room[:many])
		if !bytes.Equal(room, rising(300)) {
			t.Errorf("with %d bytes handed in, their room became %v", many, room)
		}
		if again := Sum(room[:many]); again != first {
			t.Errorf("the sum of %d bytes became another one", many)
		}
	}
	b := []byte{1, 2}
	s := Hex(b)
	b[0] = 255
	if s != "0102" {
		t.Errorf("the digits became %q", s)
	}
	one, _ := Unhex("0102")
	one[0] = 255
	if two, _ := Unhex("0102"); !bytes.Equal(two, []byte{1, 2}) {
		t.Errorf("the bytes became %v", two)
	}
}
