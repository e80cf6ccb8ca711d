package syntax

import (
	"fmt"
	"math"
	"net/netip"
	"slices"
	"strings"
	"testing"

	"subway/api"
)

// addresses are those about which bytes, bits and halves change.
func addresses() []uint32 {
	out := []uint32{0x0a010203, 0x01020304, 0x7f000001, 0xc0a80001, 0xdeadbeef, 0x63646566, 0x090a0b0c}
	for bit := range 32 {
		one := uint32(1) << bit
		out = append(out, one-1, one, one+1, -one-1, -one, -one+1)
	}
	return out
}

// wrong are nets that are not right, whatever their address.
func wrong() []api.Net {
	out := []api.Net{}
	for _, a := range []uint32{0, 1, 1 << 31, 0x0a010000, math.MaxUint32} {
		for _, bits := range []int{math.MinInt, math.MinInt32, -256, -33, -32, -2, -1, 33, 34, 63, 64, 65, 256, 1 << 32, 1<<32 + 8, math.MaxInt} {
			out = append(out, api.Net{Addr: a, Bits: bits})
		}
	}
	return out
}

// mask has the first bits alone.
func mask(bits int) uint32 {
	m := uint32(0)
	for i := range bits {
		m |= 1 << (31 - i)
	}
	return m
}

// nets are right ones of all sizes, about all the addresses.
func nets() []api.Net {
	out := []api.Net{}
	for bits := range 33 {
		for _, a := range addresses() {
			if n := (api.Net{Addr: a & mask(bits), Bits: bits}); !slices.Contains(out, n) {
				out = append(out, n)
			}
		}
	}
	return out
}

// P4.1, D1: names.

func TestNamesOfOneByte(t *testing.T) {
	for c := range 256 {
		want := strings.Contains("abcdefghijklmnopqrstuvwxyz0123456789", string([]byte{byte(c)}))
		if Name(string([]byte{byte(c)})) != want {
			t.Errorf("byte %d alone: %v", c, !want)
		}
	}
}

func TestNamesHaveTheirBytesAtEachPlace(t *testing.T) {
	for c := range 256 {
		want := strings.Contains("abcdefghijklmnopqrstuvwxyz0123456789", string([]byte{byte(c)}))
		for _, many := range []int{2, 3, 19, 20} {
			for at := range many {
				s := []byte(strings.Repeat("a", many))
				s[at] = byte(c)
				within := c == '-' && at > 0 && at < many-1
				if Name(string(s)) != (want || within) {
					t.Errorf("%q: %v", s, !(want || within))
				}
			}
		}
	}
}

func TestNamesHaveOneTo20Bytes(t *testing.T) {
	for many := range 300 {
		for _, s := range []string{strings.Repeat("a", many), strings.Repeat("9", many), strings.Repeat("z0", many)[:many]} {
			if Name(s) != (many >= 1 && many <= 20) {
				t.Errorf("%q, of %d bytes: %v", s, many, Name(s))
			}
		}
	}
	if Name(strings.Repeat("a", 1<<20)) {
		t.Error("a name has a million bytes")
	}
}

func TestNamesHaveNoDashFirstOrLast(t *testing.T) {
	for s, want := range map[string]int{
		"a-b": 1, "web-1": 1, "1-2-3": 1, "a--b": 1, "a------------------b": 1, "0-z": 1,
		"-": 0, "--": 0, "---": 0, "-a": 0, "a-": 0, "-a-": 0, "a-b-": 0, "-a-b": 0, "a-------------------": 0, "-------------------a": 0, "--------------------": 0,
	} {
		if Name(s) != (want == 1) {
			t.Errorf("%q: %v", s, Name(s))
		}
	}
}

func TestNamesHaveNoOtherBytes(t *testing.T) {
	for _, s := range []string{"", " ", "a b", " a", "a ", "a\n", "a\x00", "\x00", "Web", "wEb", "WEB", "a.b", "a_b", "a/b", "a:b", "é", "aé", "aéa", "ａ", "٣", "a\u2013b", "\xff", "a\xe1b", "a`", "a{", "a/", "a,", "a."} {
		if Name(s) {
			t.Errorf("%q is a name", s)
		}
	}
}

// P4.1, D1: addresses.

func TestDotsAreTheFourBytesTheHighestFirst(t *testing.T) {
	for a, want := range map[uint32]string{
		0: "0.0.0.0", 1: "0.0.0.1", 256: "0.0.1.0", 1 << 16: "0.1.0.0", 1 << 24: "1.0.0.0", math.MaxUint32: "255.255.255.255",
		0x0a010203: "10.1.2.3", 0x01020304: "1.2.3.4", 0x80000000: "128.0.0.0", 0x63646566: "99.100.101.102", 0x090a0b0c: "9.10.11.12",
	} {
		if Dots(a) != want {
			t.Errorf("%#x is %q, not %q", a, Dots(a), want)
		}
		if got, is := Addr(want); got != a || !is {
			t.Errorf("%q is %#x, %v", want, got, is)
		}
	}
	for _, a := range addresses() {
		if want := fmt.Sprintf("%d.%d.%d.%d", a>>24, a>>16&255, a>>8&255, a&255); Dots(a) != want {
			t.Errorf("%#x is %q, not %q", a, Dots(a), want)
		}
	}
}

func noAddresses() []string {
	return []string{
		"", ".", "..", "...", "....", "0", "1", "10", "167838211", "1.2", "1.2.3", "1.2.3.", ".1.2.3", "1..2.3", "1.2..3", "1.2.3..", "..1.2.3", ".1.2.3.4", "1.2.3.4.", "1.2.3.4..", "1..2.3.4", "1.2.3.4.5", "0.0.0.0.0", "0.1.2.3.4", "1.2.3.4.5.6.7.8",
		"256.0.0.0", "0.256.0.0", "0.0.256.0", "0.0.0.256", "257.1.1.1", "1.2.3.260", "1.2.3.300", "1.2.3.511", "1.2.3.512", "1.2.3.999", "1.2.3.1000", "1.2.3.65536", "1.2.3.4294967296", "1.2.3.4294967300", "1.2.3.1099511627776", "1.2.3.18446744073709551616", "4294967296.0.0.0", "1.2.3.99999999999999999999999999",
		"00.0.0.0", "0.00.0.0", "0.0.00.0", "0.0.0.00", "01.2.3.4", "1.02.3.4", "1.2.03.4", "1.2.3.04", "1.2.3.004", "1.2.3.0255", "010.1.2.3",
		" 1.2.3.4", "1.2.3.4 ", "1 .2.3.4", "1. 2.3.4", "1.2.3.4\n", "1.2.3.4\x00", "\x001.2.3.4", "1.2.3.4a", "a1.2.3.4", "a.b.c.d", "1.2.3.a", "-1.2.3.4", "1.2.3.-4", "+1.2.3.4", "1.2.3.+4", "1.2.3.-0", "0x1.2.3.4", "1.2.3.0x4", "1.2.3.1e1", "1,2,3,4", "1.2.3,4", "1.2.3:4", "1.2.3/4", "1.2.3.4/32", "1.2.3.4/", "1.2.3.4:80", "::1", "1.2.3.٣", "1。2。3。4", "\xff.\xff.\xff.\xff",
		strings.Repeat("1.", 1000), strings.Repeat("1.", 1000) + "1", strings.Repeat(".", 1<<20), "1.2.3." + strings.Repeat("1", 1<<20), "1.2.3." + strings.Repeat("0", 1<<20),
	}
}

func TestAddrRefusesWhatIsNoAddress(t *testing.T) {
	for _, s := range noAddresses() {
		if a, is := Addr(s); a != 0 || is {
			t.Errorf("%.40q is %#x, %v", s, a, is)
		}
	}
}

// Each number at each of the four places is one, or none, by itself.
func TestAddrLooksAtEachPlace(t *testing.T) {
	for at := range 4 {
		for n := range 1100 {
			pieces := []string{"1", "22", "133", "0"}
			pieces[at] = fmt.Sprint(n)
			s := strings.Join(pieces, ".")
			a, is := Addr(s)
			if is != (n < 256) || is && (Dots(a) != s || int(a>>(24-8*at))&255 != n) || !is && a != 0 {
				t.Errorf("%q is %#x, %v", s, a, is)
			}
		}
	}
}

// P4.1, D2: texts of nets.

func TestSlashIsAnAddressAndANumber(t *testing.T) {
	for want, n := range map[string]api.Net{
		"0.0.0.0/0": {}, "0.0.0.0/32": {Bits: 32}, "0.0.0.0/1": {Bits: 1}, "128.0.0.0/1": {Addr: 1 << 31, Bits: 1}, "255.255.255.255/32": {Addr: math.MaxUint32, Bits: 32}, "255.255.255.254/31": {Addr: math.MaxUint32 - 1, Bits: 31},
		"10.0.0.0/8": {Addr: 0x0a000000, Bits: 8}, "10.1.0.0/16": {Addr: 0x0a010000, Bits: 16}, "10.0.0.0/16": {Addr: 0x0a000000, Bits: 16}, "10.1.2.3/32": {Addr: 0x0a010203, Bits: 32}, "10.1.2.0/23": {Addr: 0x0a010200, Bits: 23},
	} {
		if Slash(n) != want {
			t.Errorf("%v is %q, not %q", n, Slash(n), want)
		}
		if got, is := Net(want); got != n || !is {
			t.Errorf("%q is %v, %v", want, got, is)
		}
	}
}

func TestNetsOfWrongSizesAreNone(t *testing.T) {
	for _, n := range wrong() {
		if Slash(n) != "" {
			t.Errorf("%v is %q", n, Slash(n))
		}
		for _, a := range []uint32{0, n.Addr, ^n.Addr, math.MaxUint32} {
			if In(n, a) {
				t.Errorf("%#x is in %v", a, n)
			}
		}
		s := fmt.Sprintf("%s/%d", Dots(n.Addr), n.Bits)
		if got, is := Net(s); is || got != (api.Net{}) {
			t.Errorf("%q is %v, %v", s, got, is)
		}
	}
}

// A bit behind the first ones makes a net wrong, wherever it stands; a bit that is one of the first does not.
func TestNetsWithABitBehindAreNone(t *testing.T) {
	for bits := range 33 {
		for at := range 32 { // bit 0 is the first one
			n := api.Net{Addr: 1 << (31 - at), Bits: bits}
			s := fmt.Sprintf("%s/%d", Dots(n.Addr), bits)
			got, is := Net(s)
			if at < bits {
				if Slash(n) != s || !In(n, n.Addr) || !is || got != n {
					t.Errorf("%q is no net: %q, %v, %v", s, Slash(n), got, is)
				}
				continue
			}
			if Slash(n) != "" || In(n, n.Addr) || In(n, 0) || is || got != (api.Net{}) {
				t.Errorf("%q is a net: %q, %v, %v", s, Slash(n), got, is)
			}
		}
	}
}

func TestNetRefusesWhatIsNoNet(t *testing.T) {
	all := []string{
		"", "/", "//", "0", "8", "/0", "/8", "/32", "0/0", "10/8", "10.0/8", "10.1.0.0", "0.0.0.0", "10.1.0.0/", "10.1.0.0//", "10.1.0.0//16", "/10.1.0.0/16", "10.1.0.0/16/", "10.0.0.0/8/8", "0.0.0.0/0/0", "10.0.0.0/8/a", "0.0.0.0/0/", "16/10.1.0.0",
		"0.0.0.0/33", "0.0.0.0/34", "0.0.0.0/64", "0.0.0.0/100", "0.0.0.0/255", "0.0.0.0/256", "0.0.0.0/4294967296", "0.0.0.0/4294967304", "0.0.0.0/1099511627776", "0.0.0.0/18446744073709551616", "0.0.0.0/-1", "0.0.0.0/-0", "0.0.0.0/+0", "0.0.0.0/+8",
		"0.0.0.0/00", "0.0.0.0/01", "10.0.0.0/08", "10.0.0.0/008", "0.0.0.0/032",
		"10.1.2.0/16", "10.1.0.1/16", "0.0.0.1/0", "128.0.0.0/0", "64.0.0.0/1", "255.255.255.255/31", "1.2.3.4/0",
		" 10.1.0.0/16", "10.1.0.0/16 ", "10.1.0.0 /16", "10.1.0.0/ 16", "10.1.0.0/16\n", "10.1.0.0/16\x00", "10.1.0.0/16a", "10.1.0.0/a", "10.1.0.0/1.6", "10.1.0.0/255.255.0.0", "10.1.0.0:16", "10.1.0.0\\16", "10.1.0.0.16", "10.1.0.0/0x8", "10.1.0.0/1e1", "10.1.0.0/٣",
		strings.Repeat("/", 1<<20), "0.0.0.0/" + strings.Repeat("0", 1<<20), "0.0.0.0/0" + strings.Repeat("/0", 1<<20),
	}
	for _, s := range noAddresses() {
		all = append(all, s+"/0", s+"/32")
	}
	for _, s := range all {
		if n, is := Net(s); n != (api.Net{}) || is {
			t.Errorf("%.40q is %v, %v", s, n, is)
		}
	}
}

// P4.1, D2: addresses in nets.

func TestInKnown(t *testing.T) {
	for _, c := range []struct {
		net, addr string
		want      bool
	}{
		{"10.1.0.0/16", "10.1.2.3", true}, {"10.1.0.0/16", "10.1.0.0", true}, {"10.1.0.0/16", "10.1.255.255", true},
		{"10.1.0.0/16", "10.0.255.255", false}, {"10.1.0.0/16", "10.2.0.0", false}, {"10.1.0.0/16", "11.1.2.3", false}, {"10.1.0.0/16", "0.0.0.0", false}, {"10.1.0.0/16", "255.255.255.255", false},
		{"0.0.0.0/0", "0.0.0.0", true}, {"0.0.0.0/0", "255.255.255.255", true}, {"0.0.0.0/0", "128.0.0.0", true},
		{"0.0.0.0/1", "127.255.255.255", true}, {"0.0.0.0/1", "128.0.0.0", false}, {"128.0.0.0/1", "128.0.0.0", true}, {"128.0.0.0/1", "127.255.255.255", false},
		{"10.1.2.3/32", "10.1.2.3", true}, {"10.1.2.3/32", "10.1.2.2", false}, {"10.1.2.3/32", "10.1.2.4", false}, {"10.1.2.2/31", "10.1.2.3", true}, {"10.1.2.2/31", "10.1.2.4", false}, {"10.1.2.2/31", "10.1.2.1", false},
		{"0.0.0.0/32", "0.0.0.0", true}, {"0.0.0.0/32", "0.0.0.1", false}, {"255.255.255.255/32", "255.255.255.255", true}, {"255.255.255.255/32", "255.255.255.254", false},
	} {
		n, is := Net(c.net)
		a, at := Addr(c.addr)
		if !is || !at || In(n, a) != c.want {
			t.Errorf("%s in %s: %v", c.addr, c.net, In(n, a))
		}
	}
}

// Each of the first bits counts, and none behind them.
func TestInHangsOnTheFirstBitsAlone(t *testing.T) {
	for _, n := range nets() {
		if !In(n, n.Addr) || !In(n, n.Addr|^mask(n.Bits)) {
			t.Errorf("the first or the last address is not in %v", n)
		}
		for at := range 32 {
			if In(n, n.Addr^1<<(31-at)) != (at >= n.Bits) {
				t.Errorf("with bit %d changed: %v in %v", at, at < n.Bits, n)
			}
		}
		for _, a := range addresses() {
			if In(n, a) != (a&mask(n.Bits) == n.Addr) {
				t.Errorf("%#x in %v: %v", a, n, In(n, a))
			}
		}
	}
}

// P4.2.

func TestAddressesThereAndBack(t *testing.T) {
	all := addresses()
	for a, step := uint32(0), 0; step < 100000; step++ {
		a = a*1664525 + 1013904223
		all = append(all, a)
	}
	for _, a := range all {
		if got, is := Addr(Dots(a)); got != a || !is {
			t.Errorf("%#x comes back as %#x, %v", a, got, is)
		}
	}
}

func TestNetsThereAndBack(t *testing.T) {
	for _, n := range nets() {
		if got, is := Net(Slash(n)); got != n || !is {
			t.Errorf("%v comes back of %q as %v, %v", n, Slash(n), got, is)
		}
	}
}

// Of texts of few bytes, those that are read are those that come back: the others are none.
func TestTextsThereAndBack(t *testing.T) {
	bases := []string{"0.0.0.0/0", "10.1.0.0/16", "255.255.255.255/32", "128.0.0.0/1", "1.20.103.4", "0.0.0.0"}
	for _, base := range bases {
		for at := range len(base) + 1 {
			for _, c := range []string{"", ".", "/", "0", "1", "2", "9", "-", " ", "a"} {
				texts := []string{base[:at] + c + base[at:]}
				if at < len(base) {
					texts = append(texts, base[:at]+c+base[at+1:])
				}
				for _, s := range texts {
					known(t, s)
				}
			}
		}
	}
}

// known holds a text against what the library says of it, that is as strict about decimals.
func known(t *testing.T, s string) {
	want, err := netip.ParseAddr(s)
	a, is := Addr(s)
	if is != (err == nil && want.Is4()) || is && Dots(a) != s || is && Dots(a) != want.String() || !is && a != 0 {
		t.Errorf("%q is %#x, %v", s, a, is)
	}
	net, err := netip.ParsePrefix(s)
	right := err == nil && net.Addr().Is4() && net == net.Masked()
	n, is := Net(s)
	if is != right || is && Slash(n) != s || is && Slash(n) != net.String() || !is && n != (api.Net{}) {
		t.Errorf("%q is %v, %v", s, n, is)
	}
}

// P4.3.

func TestOfTwoNetsOneIsWithinTheOtherOrTheyAreApart(t *testing.T) {
	all := nets()
	for _, a := range all {
		for _, b := range all {
			if b.Bits < a.Bits {
				continue
			}
			// b is the smaller one: either each of its addresses that are tried is in a, or none is, and then none of a's is in b.
			within := In(a, b.Addr)
			behind := ^mask(b.Bits)
			for _, at := range []uint32{0, 1, behind / 2, behind/2 + 1, behind &^ 1, behind} {
				if In(a, b.Addr|at&behind) != within {
					t.Fatalf("%v is in part in %v", b, a)
				}
			}
			if In(b, a.Addr) && !within || In(b, a.Addr|^mask(a.Bits)) && !within {
				t.Fatalf("%v is in %v, and not the other way round", a, b)
			}
			if within != (a.Addr == b.Addr&mask(a.Bits)) {
				t.Fatalf("%v within %v: %v", b, a, within)
			}
		}
	}
}

// All the addresses of all small nets, one by one.
func TestSmallNetsAreWithinOrApart(t *testing.T) {
	small := []api.Net{}
	for bits := 28; bits <= 32; bits++ {
		for at := uint32(0); at < 16; at += 1 << (32 - bits) {
			small = append(small, api.Net{Addr: 0x0a010200 | at, Bits: bits})
		}
	}
	for _, a := range small {
		for _, b := range small {
			both, ofA, ofB := 0, 0, 0
			for at := uint32(0x0a0101f0); at < 0x0a010220; at++ {
				inA, inB := In(a, at), In(b, at)
				if inA {
					ofA++
				}
				if inB {
					ofB++
				}
				if inA && inB {
					both++
				}
			}
			if ofA != 1<<(32-a.Bits) || ofB != 1<<(32-b.Bits) || both != 0 && both != min(ofA, ofB) {
				t.Errorf("%v has %d, %v has %d, both have %d", a, ofA, b, ofB, both)
			}
		}
	}
}
