package mac

import (
	"bytes"
	"crypto/hmac"
	"crypto/sha256"
	"encoding/hex"
	"slices"
	"strings"
	"testing"
	"time"

	"subway/digest"
	"subway/num"
)

// rising are so many bytes, each other than those about it; none of the first ones is 0.
func rising(many int) []byte {
	b := make([]byte, many)
	for i := range b {
		b[i] = byte(i*167 + i/256 + 13)
	}
	return b
}

// known is the same sum, made by the library.
func known(key, b []byte) [32]byte {
	h := hmac.New(sha256.New, key)
	h.Write(b)
	return [32]byte(h.Sum(nil))
}

func lengths() []int {
	return []int{0, 1, 2, 20, 31, 32, 33, 55, 56, 62, 63, 64, 65, 66, 100, 127, 128, 129, 131, 200, 1000}
}

// P3.1, C1.

func TestMacsThatAreKnown(t *testing.T) {
	for _, c := range []struct {
		key, b, want string
	}{
		{"", "", "b613679a0814d9ec772f95d778c35fc5ff1697c493715653c6c712144292c5ad"},
		{"key", "The quick brown fox jumps over the lazy dog", "f7bc83f430538424b13298e6aa6fb143ef4d59a14946175997479dbc2d1a3cd8"},
		{strings.Repeat("\x0b", 20), "Hi There", "b0344c61d8db38535ca8afceaf0bf12b881dc200c9833da726e9376c2e32cff7"},
		{"Jefe", "what do ya want for nothing?", "5bdcc146bf60754e6a042426089575c75a003f089d2739839dec58b964ec3843"},
		{strings.Repeat("\xaa", 20), strings.Repeat("\xdd", 50), "773ea91e36800e46854db8ebd09181a72959098b3ef8c122d9635514ced565fe"},
		{strings.Repeat("\xaa", 131), "Test Using Larger Than Block-Size Key - Hash Key First", "60e431591ee0b67f0d8a26aacbf5b77f8e0bc6213728c5140546040f0ee37f54"},
		{strings.Repeat("\xaa", 131), "This is a test using a larger than block-size key and a larger than block-size data. The key needs to be hashed before being used by the HMAC algorithm.", "9b09ffa71b942fcb27635fbcd5b0e944bfdc63644f0713938a7f51535c3a35e2"},
	} {
		sum := Mac([]byte(c.key), []byte(c.b))
		if got := hex.EncodeToString(sum[:]); got != c.want {
			t.Errorf("under %q, %q has %s, not %s", c.key, c.b, got, c.want)
		}
	}
	if Mac(nil, nil) != Mac([]byte{}, []byte{}) {
		t.Error("no key and no bytes have another sum where they are nil")
	}
}

func TestMacsOfAllLengthsAboutTheEndsOfBlocks(t *testing.T) {
	for key := range 140 {
		for _, many := range lengths() {
			if k, b := rising(key), rising(many); Mac(k, b) != known(k, b) {
				t.Errorf("under a key of %d bytes, %d have %x, not %x", key, many, Mac(k, b), known(k, b))
			}
		}
	}
}

// The chapter's words, written out for a key that has all its bytes: one sum within another, under two pads.
func TestMacIsASumWithinASum(t *testing.T) {
	key, b := rising(64), []byte("web")
	in, out := []byte{}, []byte{}
	for _, c := range key {
		in, out = append(in, c^54), append(out, c^92)
	}
	inner := digest.Sum(append(in, b...))
	if want := digest.Sum(append(out, inner[:]...)); Mac(key, b) != want {
		t.Errorf("it is %x, not %x", Mac(key, b), want)
	}
}

func TestMacHangsOnEachByte(t *testing.T) {
	for _, many := range []int{1, 63, 64, 65, 130} {
		key, b := rising(many), rising(many)
		first := Mac(key, b)
		for i := range many {
			key[i] ^= 1
			if Mac(key, b) == first {
				t.Errorf("of %d bytes of a key, byte %d does nothing", many, i)
			}
			key[i] ^= 1
			b[i] ^= 128
			if Mac(key, b) == first {
				t.Errorf("of %d bytes, byte %d does nothing", many, i)
			}
			b[i] ^= 128
		}
	}
}

// Where a key ends and the bytes begin is no matter of taste.
func TestMacTellsTheKeyFromTheBytes(t *testing.T) {
	all := rising(70)
	seen := map[[32]byte]int{}
	for cut := range len(all) + 1 {
		sum := Mac(all[:cut], all[cut:])
		if other, there := seen[sum]; there {
			t.Errorf("cut at %d and at %d it has one sum", other, cut)
		}
		seen[sum] = cut
	}
}

// P3.1, C2.

func TestSameOfAllLengths(t *testing.T) {
	for a := range 70 {
		for b := range 70 {
			if is := Same(rising(a), rising(b)); is != (a == b) {
				t.Errorf("rows of %d and %d bytes, that begin alike: %v", a, b, is)
			}
			if is := Same(make([]byte, a), make([]byte, b)); is != (a == b) {
				t.Errorf("rows of %d and %d bytes 0: %v", a, b, is)
			}
		}
	}
	for _, none := range [][]byte{nil, {}} {
		if !Same(none, nil) || !Same(nil, none) || !Same(none, []byte{}) {
			t.Error("no bytes are not alike")
		}
		if Same(none, []byte{0}) || Same([]byte{0}, none) {
			t.Error("no bytes are like one")
		}
	}
}

func TestSameSeesEachBitOfEachByte(t *testing.T) {
	for _, many := range []int{1, 2, 31, 32, 33, 64, 100} {
		a, b := rising(many), rising(many)
		for bit := range 8 * many {
			b[bit/8] ^= 1 << (bit % 8)
			if Same(a, b) || Same(b, a) {
				t.Errorf("rows of %d bytes are alike with bit %d changed", many, bit)
			}
			b[bit/8] ^= 1 << (bit % 8)
		}
		if !Same(a, b) {
			t.Errorf("rows of %d bytes are not alike", many)
		}
	}
}

// What is wrong twice does not become right: neither by sums nor by xors.
func TestSameSeesBytesThatChangeTogether(t *testing.T) {
	for _, c := range [][2]string{
		{"ab", "ba"}, {"ab", "bb"}, {"\x00\x00", "\x01\x01"}, {"\x00\x00", "\x80\x80"}, {"\x00\x00", "\x01\xff"},
		{"abc", "bca"}, {"abab", "baba"}, {"b", "ab"}, {"ab", "b"}, {"ba", "b"}, {"ab\x00", "ab"},
	} {
		if Same([]byte(c[0]), []byte(c[1])) || Same([]byte(c[1]), []byte(c[0])) {
			t.Errorf("%q and %q are alike", c[0], c[1])
		}
	}
}

// Rows that begin otherwise take about as long as those that are alike. One who stops at the first byte that is other is some ten thousand times faster: so there is much room for a machine that has other things to do.
func TestSameLooksAtAllBytes(t *testing.T) {
	a := rising(1 << 22)
	for _, at := range []int{0, 1, 1000} {
		other := bytes.Clone(a)
		other[at] ^= 255
		like, unlike := []time.Duration{}, []time.Duration{}
		for range 5 {
			like = append(like, took(a, bytes.Clone(a)))
			unlike = append(unlike, took(a, other))
		}
		if slices.Max(unlike) < slices.Min(like)/20 {
			t.Errorf("rows that are alike took %v, with byte %d changed %v", slices.Min(like), at, slices.Max(unlike))
		}
	}
}

func took(a, b []byte) time.Duration {
	from := time.Now()
	Same(a, b)
	return time.Since(from)
}

// P3.1, C3.

func TestProofIsTheMacOfTexts(t *testing.T) {
	long := strings.Repeat("w", 255)
	for _, words := range [][]string{
		nil, {}, {""}, {"", ""}, {"", "", ""}, {"a"}, {"a", ""}, {"", "a"}, {"ann", "t1", "n"}, {"a\x00b", "\xff", "é"},
		{long}, {long, long}, {"", long, "a"}, {strings.Repeat("\x00", 255)}, {strings.Repeat("v", 254), "x", long},
	} {
		for _, many := range []int{0, 1, 32, 63, 64, 65, 200} {
			b := []byte{}
			for _, word := range words {
				b = append(append(b, byte(len(word))), word...)
			}
			sum := known(rising(many), b)
			if got := Proof(rising(many), words...); got != hex.EncodeToString(sum[:]) {
				t.Errorf("under a key of %d bytes, the proof of %q is %s, not %x", many, words, got, sum)
			}
		}
	}
}

func TestProofOfNoWords(t *testing.T) {
	if got := Proof(nil); got != "b613679a0814d9ec772f95d778c35fc5ff1697c493715653c6c712144292c5ad" {
		t.Errorf("with no key and no words it is %q", got)
	}
	if Proof([]byte("k")) == Proof([]byte("k"), "") {
		t.Error("no words and one of no bytes have one proof")
	}
}

func TestProofOfManyWords(t *testing.T) {
	words := make([]string, 3000)
	b := []byte{}
	for i := range words {
		words[i] = string(rising(i % 256))
		b = append(b, num.Text(words[i])...)
	}
	if sum := known([]byte("k"), b); Proof([]byte("k"), words...) != hex.EncodeToString(sum[:]) {
		t.Error("the proof of 3000 words is wrong")
	}
}

func TestProofRefusesWordsThatAreTooLong(t *testing.T) {
	long := strings.Repeat("a", 256)
	for _, words := range [][]string{
		{long}, {"a", long}, {long, "a"}, {"a", long, "b"}, {"", long}, {long, ""}, {long, long}, {"a", "b", "c", long},
		{strings.Repeat("b", 255), long}, {long, strings.Repeat("b", 255)},
		{strings.Repeat("c", 257)}, {"a", strings.Repeat("c", 511), "b"}, {strings.Repeat("c", 512)}, {strings.Repeat("c", 1<<20)}, {strings.Repeat("é", 128)},
	} {
		for _, key := range [][]byte{nil, []byte("k"), rising(65)} {
			if got := Proof(key, words...); got != "" {
				t.Errorf("with a word that is too long among %d, the proof is %q", len(words), got)
			}
		}
	}
	for _, word := range []string{strings.Repeat("a", 255), strings.Repeat("é", 127)} {
		if got := Proof(nil, word); len(got) != 64 {
			t.Errorf("of a word of %d bytes, the proof is %q", len(word), got)
		}
	}
}

// P3.2.

func TestWordsThatAreCutOtherwiseHaveOtherProofs(t *testing.T) {
	seen := map[string][]string{}
	for _, all := range []string{"", "a", "abc", "\x00\x00\x00", "\x01\x01\x01", "\x01a\x01b", "aaaaa"} {
		for _, words := range cuts(all, 5) {
			proof := Proof([]byte("key"), words...)
			if other, there := seen[proof]; there && !slices.Equal(other, words) {
				t.Errorf("%q and %q have one proof", other, words)
			}
			seen[proof] = words
		}
	}
}

// cuts are all ways to cut a text into words, at most so many; words of no bytes too.
func cuts(all string, most int) [][]string {
	out := [][]string{}
	if all == "" {
		out = append(out, []string{})
	}
	if most == 0 {
		return out
	}
	for at := range len(all) + 1 {
		for _, behind := range cuts(all[at:], most-1) {
			out = append(out, append([]string{all[:at]}, behind...))
		}
	}
	return out
}

func TestProofOfTwoWordsIsThatOfBothTexts(t *testing.T) {
	key := []byte("secret")
	sum := Mac(key, []byte("\x01a\x02bc"))
	if Proof(key, "a", "bc") != digest.Hex(sum[:]) {
		t.Error("a and bc have another proof than their texts")
	}
	for _, words := range [][]string{{"ab", "c"}, {"abc"}, {"abc", ""}, {"", "abc"}, {"a", "b", "c"}, {"bc", "a"}, {"a\x02bc"}, {"\x01a\x02bc"}, {"a", "bc", ""}, {"", "a", "bc"}, {"a", "", "bc"}} {
		if Proof(key, words...) == Proof(key, "a", "bc") {
			t.Errorf("%q have the proof of a and bc", words)
		}
	}
	long := strings.Repeat("x", 255)
	if Proof(key, long, "x") == Proof(key, "x", long) {
		t.Error("words of 255 bytes and of one have one proof in either order")
	}
}

// P3.3.

func TestKeyWithZerosBehindIsTheSame(t *testing.T) {
	b := []byte("web")
	for many := range 65 {
		key := rising(many)
		first, proof := Mac(key, b), Proof(key, "web")
		for behind := 0; many+behind <= 64; behind++ {
			longer := append(rising(many), make([]byte, behind)...)
			if Mac(longer, b) != first || Proof(longer, "web") != proof {
				t.Errorf("with %d bytes 0 behind, a key of %d is another one", behind, many)
			}
		}
		for _, all := range []int{65, 66, 128} {
			longer := append(rising(many), make([]byte, all-many)...)
			if Mac(longer, b) == first || Proof(longer, "web") == proof {
				t.Errorf("with bytes 0 up to %d behind, a key of %d is still the same", all, many)
			}
		}
	}
}

func TestKeyWithOtherBytesBehindOrZerosAheadIsAnother(t *testing.T) {
	for many := range 64 {
		key := rising(many)
		if many > 0 && Mac(append([]byte{0}, key...), nil) == Mac(key, nil) {
			t.Errorf("with a byte 0 ahead, a key of %d is the same", many)
		}
		for _, c := range []byte{1, 54, 92, 255} {
			if Mac(append(rising(many), c), nil) == Mac(key, nil) {
				t.Errorf("with a byte %d behind, a key of %d is the same", c, many)
			}
		}
	}
}

// A key that is longer is its sum, and that has room for bytes 0; its own bytes 0 are bytes like others.
func TestLongKeyIsItsSum(t *testing.T) {
	for _, many := range []int{65, 66, 127, 128, 129, 1000} {
		key := rising(many)
		sum := digest.Sum(key)
		if Mac(key, []byte("b")) != Mac(sum[:], []byte("b")) {
			t.Errorf("a key of %d bytes is not its sum", many)
		}
		if Mac(key, []byte("b")) != Mac(append(sum[:], make([]byte, 32)...), []byte("b")) {
			t.Errorf("a key of %d bytes is not its sum with bytes 0 behind", many)
		}
		if Mac(append(key, 0), []byte("b")) == Mac(rising(many), []byte("b")) {
			t.Errorf("with a byte 0 behind, a key of %d is the same", many)
		}
	}
	for _, many := range []int{0, 1, 32, 63, 64} {
		sum := digest.Sum(rising(many))
		if Mac(rising(many), nil) == Mac(sum[:], nil) {
			t.Errorf("a key of %d bytes is its sum", many)
		}
	}
}

// P3, of this layer's calls: what is handed in stays as it is, its spare room too, and is not kept.

func TestWhatIsHandedInStaysAsItIs(t *testing.T) {
	for _, many := range []int{0, 1, 63, 64, 65, 100} {
		key, b := rising(300), rising(300)
		first := Mac(key[:many], b[:many])
		proof := Proof(key[:many], "a", "b")
		Same(key[:many], b[:many])
		if !bytes.Equal(key, rising(300)) || !bytes.Equal(b, rising(300)) {
			t.Errorf("with %d bytes handed in, their room became other", many)
		}
		if Mac(key[:many], b[:many]) != first || Proof(key[:many], "a", "b") != proof {
			t.Errorf("asked again, a key of %d bytes answers otherwise", many)
		}
		if got := Mac(key[:many], key[:many]); got != known(key[:many], key[:many]) {
			t.Errorf("where a key of %d bytes is what is summed too, it is %x", many, got)
		}
	}
	words := []string{"a", "b", "c", "d"}
	Proof([]byte("k"), words[:2]...)
	if !slices.Equal(words, []string{"a", "b", "c", "d"}) {
		t.Errorf("the words became %q", words)
	}
	key := []byte("key")
	first := Mac(key, nil)
	key[0] = 'x'
	if Mac([]byte("key"), nil) != first || Mac(key, nil) == first {
		t.Error("a key was kept")
	}
}
