package config_test

import (
	"fmt"
	"math"
	"reflect"
	"slices"
	"strconv"
	"strings"
	"testing"

	"subway/api"
	"subway/config"
)

// P9.1, I1: what is right, and its text.

// right holds that c is right, with that text, and that it is there and back.
func right(t *testing.T, c api.Config) {
	t.Helper()
	want := printed(c)
	if !config.Right(c) {
		t.Fatalf("not right: %q", want)
	}
	if s := config.Print(c); s != want {
		t.Fatalf("Print is %q, not %q", s, want)
	}
	back, err, at := config.Parse(want)
	if len(want) > mostText {
		if !zero(back) || err != api.ErrTooMany || at != 0 {
			t.Fatalf("of %d bytes: %v, %d, %d", len(want), back, err, at)
		}
		return
	}
	if !same(back, c) || err != api.OK || at != 0 {
		t.Fatalf("Parse of %q is %v, %d, %d", want, back, err, at)
	}
}

// wrong holds that c is none, and that no line of what its text would be, but the one that is wrong, is told.
func wrong(t *testing.T, c api.Config, line int) {
	t.Helper()
	if config.Right(c) || config.Print(c) != "" {
		t.Fatalf("Right is %t, Print is %q, of %v", config.Right(c), config.Print(c), c)
	}
	if back, err, at := config.Parse(printed(c)); !zero(back) || err != api.ErrWord || at != line {
		t.Fatalf("Parse of %q is %v, %d, %d, not nothing, %d, %d", printed(c), back, err, at, api.ErrWord, line)
	}
}

func TestTextsOfConfigurations(t *testing.T) {
	for text, c := range map[string]api.Config{
		"times 9 9 9 9\n":                                    {Wait: 9, Grace: 9, Idle: 9, Lease: 9},
		"times 1 2 3 1073741824\n":                           {Wait: 1, Grace: 2, Idle: 3, Lease: mostTime},
		"times 9 8 7 6\ntenant ann 0 0\n":                    {Wait: 9, Grace: 8, Idle: 7, Lease: 6, Tenants: []api.Tenant{{Name: "ann"}}},
		"times 9 8 7 6\ntenant a-b 8 7\nnet 10.1.0.0/16\n":   {Wait: 9, Grace: 8, Idle: 7, Lease: 6, Tenants: []api.Tenant{{Name: "a-b", Names: 8, Visitors: 7, Nets: []api.Net{{Addr: 0x0a010000, Bits: 16}}}}},
		"times 9 8 7 6\ntenant 1 0 1\ntoken z9 0aff20 300\n": {Wait: 9, Grace: 8, Idle: 7, Lease: 6, Tenants: []api.Tenant{{Name: "1", Visitors: 1, Tokens: []api.Token{{Name: "z9", Secret: "\n\xff ", Until: 300}}}}},
		whole: ofWhole(),
	} {
		if printed(c) != text {
			t.Fatalf("the test itself prints %q, not %q", printed(c), text)
		}
		right(t, c)
	}
}

func TestEmptyListsAreAsNone(t *testing.T) {
	c := ofWhole()
	c.Tenants[1].Nets, c.Tenants[1].Tokens = []api.Net{}, []api.Token{}
	right(t, c)
	c.Tenants = []api.Tenant{}
	right(t, c)
	c.Tenants = nil
	right(t, c)
}

func TestTimes(t *testing.T) {
	for i := range 4 {
		for n, is := range map[int64]bool{1: true, 2: true, 9: true, 10: true, 1000: true, mostTime - 1: true, mostTime: true, 0: false, -1: false, mostTime + 1: false, mostNum: false, mostNum + 1: false, 1<<32 + 1: false, math.MaxInt64: false, math.MinInt64: false} {
			c := ofWhole()
			*[]*int64{&c.Wait, &c.Grace, &c.Idle, &c.Lease}[i] = n
			if is {
				right(t, c)
			} else {
				wrong(t, c, 0)
			}
		}
	}
	if config.Right(api.Config{}) || config.Print(api.Config{}) != "" {
		t.Error("a zero one is right")
	}
}

func TestQuotas(t *testing.T) {
	for n := -2; n < 12; n++ {
		for i, at := range []int{1, 6, 7, 9} { // the lines of whole's tenants
			for which := range 2 {
				c := ofWhole()
				*[]*int{&c.Tenants[i].Names, &c.Tenants[i].Visitors}[which] = n
				if n >= 0 && n <= 8 {
					right(t, c)
				} else {
					wrong(t, c, at)
				}
			}
		}
	}
	for _, n := range []int{math.MinInt, math.MinInt + 8, -256, 256, 1 << 30, 1<<32 + 1, 1 << 32, mostNum, math.MaxInt} {
		for which := range 2 {
			c := ofWhole()
			*[]*int{&c.Tenants[3].Names, &c.Tenants[3].Visitors}[which] = n
			wrong(t, c, 9)
		}
	}
}

func TestNamesAreNames(t *testing.T) {
	for s, is := range map[string]bool{
		"ann": true, "a": true, "0": true, "a-b": true, strings.Repeat("a", 20): true, "a--b": true,
		"": false, "-": false, "-a": false, "a-": false, "Ann": false, "a_b": false, "a.b": false, "é": false, "a\x00": false, strings.Repeat("a", 21): false, strings.Repeat("a", 256): false,
	} {
		c, k := ofWhole(), ofWhole()
		c.Tenants = c.Tenants[3:]
		c.Tenants[0].Name = s
		k.Tenants[3].Tokens[0].Name = s
		if is {
			right(t, c)
			right(t, k)
		} else {
			wrong(t, c, 1)
			wrong(t, k, 10)
		}
	}
	for _, s := range []string{"a b", "a ", " a", "a\nb", "a\n", "\n"} { // a text of these would be another one
		c, k := ofWhole(), ofWhole()
		c.Tenants[0].Name = s
		k.Tenants[3].Tokens[0].Name = s
		if config.Right(c) || config.Right(k) || config.Print(c) != "" || config.Print(k) != "" {
			t.Errorf("%q is a name", s)
		}
	}
}

func TestNamesRise(t *testing.T) {
	for _, rows := range []struct {
		names string
		line  int // that of the first that does not rise; 0, if all do
	}{
		{"a b", 0}, {"a aa", 0}, {"a a-a", 0}, {"a-a aa", 0}, {"a-a a0", 0}, {"0 9 a z", 0}, {"9 a", 0}, {"10 9", 0}, {"a b c d", 0}, {"a0 a00 a01 a1", 0}, {"aaaaaaaaaaaaaaaaaaaa aaaaaaaaaaaaaaaaaaab", 0},
		{"a a", 2}, {"b a", 2}, {"aa a", 2}, {"a b b", 3}, {"a b a", 3}, {"a c b", 3}, {"c b a", 2}, {"a b c c", 4}, {"a b c a", 4}, {"a 9", 2}, {"9 10", 2}, {"a0 a-a", 2}, {"ann bob ann", 3}, {"aaaaaaaaaaaaaaaaaaab aaaaaaaaaaaaaaaaaaaa", 2},
	} {
		c := api.Config{Wait: 9, Grace: 9, Idle: 9, Lease: 9}
		k := api.Config{Wait: 9, Grace: 9, Idle: 9, Lease: 9, Tenants: []api.Tenant{{Name: "ann"}}}
		for _, s := range strings.Fields(rows.names) {
			c.Tenants = append(c.Tenants, api.Tenant{Name: s})
			k.Tenants[0].Tokens = append(k.Tenants[0].Tokens, api.Token{Name: s, Secret: "s"})
		}
		if rows.line == 0 {
			right(t, c)
			right(t, k)
		} else {
			wrong(t, c, rows.line)
			wrong(t, k, rows.line+1)
		}
	}
}

func TestTokensOfTwoTenantsHaveTheSameNames(t *testing.T) {
	c := ofWhole()
	c.Tenants[1].Tokens = []api.Token{{Name: "a", Secret: "x"}, {Name: "k", Secret: "y"}}
	c.Tenants[2].Tokens = []api.Token{{Name: "a", Secret: "x"}, {Name: "cid", Secret: "y"}}
	right(t, c)
}

func TestHowManyThereMayBe(t *testing.T) {
	for many := range 12 {
		c, n, k := ofWhole(), ofWhole(), ofWhole()
		c.Tenants, n.Tenants[1].Nets, k.Tenants[1].Tokens = nil, nil, nil
		for i := range many {
			c.Tenants = append(c.Tenants, api.Tenant{Name: "t" + string(rune('a'+i))})
			n.Tenants[1].Nets = append(n.Tenants[1].Nets, api.Net{Addr: uint32(i), Bits: 32})
			k.Tenants[1].Tokens = append(k.Tenants[1].Tokens, api.Token{Name: string(rune('a' + i)), Secret: "s"})
		}
		if many <= 8 {
			right(t, c)
		} else {
			wrong(t, c, 9)
		}
		if many <= 4 {
			right(t, n)
			right(t, k)
		} else {
			wrong(t, n, 11) // behind whole's line of bob, which is 6
			wrong(t, k, 11)
		}
	}
	right(t, largest())
	for i := range 8 {
		n, k := largest(), largest()
		n.Tenants[i].Nets = append(n.Tenants[i].Nets, api.Net{})
		k.Tenants[i].Tokens = append(k.Tenants[i].Tokens, api.Token{Name: "z", Secret: "s"})
		if config.Right(n) || config.Right(k) || config.Print(n) != "" || config.Print(k) != "" {
			t.Errorf("tenant %d may have more", i)
		}
	}
}

func TestNetsAreRight(t *testing.T) {
	for bits := -1; bits < 35; bits++ {
		for _, addr := range []uint32{0, 1, 1 << 31, 0x0a000000, 0x0a010000, 0x0a010203, math.MaxUint32} {
			c := ofWhole()
			c.Tenants[2].Nets[0] = api.Net{Addr: addr, Bits: bits}
			if bits >= 0 && bits <= 32 && uint64(addr)%(1<<(32-bits)) == 0 {
				right(t, c)
			} else {
				wrong(t, c, 8)
			}
		}
	}
	c := ofWhole()
	c.Tenants[0].Nets = []api.Net{{Addr: 10 << 24, Bits: 8}, {Addr: 10 << 24, Bits: 8}, {}, {Addr: 5, Bits: 32}} // these need not rise, nor be different
	right(t, c)
	c.Tenants[0].Nets[3].Bits = 31
	wrong(t, c, 5)
}

func TestSecretsAndUntil(t *testing.T) {
	for many := range 70 {
		for _, of := range []string{"a", "\x00", "\xff", " ", "\n"} {
			c := ofWhole()
			c.Tenants[0].Tokens[1].Secret = strings.Repeat(of, many)
			if many >= 1 && many <= 32 {
				right(t, c)
			} else {
				wrong(t, c, 5)
			}
		}
	}
	for c := range 256 {
		k := ofWhole()
		k.Tenants[3].Tokens[0].Secret = string([]byte{byte(c), byte(c * 3)})
		right(t, k)
	}
	for n, is := range map[int64]bool{0: true, 1: true, 9: true, 10: true, mostTime: true, mostTime + 1: true, 1 << 32: true, mostNum - 1: true, mostNum: true, mostNum + 1: false, -1: false, math.MinInt64: false, math.MaxInt64: false} {
		c := ofWhole()
		c.Tenants[0].Tokens[1].Until = n
		if is {
			right(t, c)
		} else {
			wrong(t, c, 5)
		}
	}
}

// P9.1, I1: what is found by its name.

func TestFind(t *testing.T) {
	c := ofWhole()
	for _, want := range c.Tenants {
		x, is := config.Find(c, want.Name)
		if !is || !reflect.DeepEqual(bare(api.Config{Tenants: []api.Tenant{x}}), bare(api.Config{Tenants: []api.Tenant{want}})) {
			t.Errorf("%s is %v, %t", want.Name, x, is)
		}
		for _, wanted := range want.Tokens {
			if k, is := config.Token(x, wanted.Name); k != wanted || !is {
				t.Errorf("%s of %s is %v, %t", wanted.Name, want.Name, k, is)
			}
		}
	}
	none := []string{"", "a", "an", "annn", "Ann", "ann ", "ANN", "k", "l", "times", "tenant", "eve", "a-2", "a-", "\x00"}
	for _, s := range none {
		if x, is := config.Find(c, s); is || !reflect.DeepEqual(bare(api.Config{Tenants: []api.Tenant{x}}), bare(api.Config{Tenants: []api.Tenant{{}}})) {
			t.Errorf("%q is %v, %t", s, x, is)
		}
	}
	for i, x := range c.Tenants {
		for _, s := range append(none, "ann", "bob", "a-1") {
			is := i == 0 && (s == "k" || s == "l") || i == 3 && s == "a-1"
			if k, got := config.Token(x, s); got != is || !is && k != (api.Token{}) {
				t.Errorf("%q of %s is %v, %t", s, x.Name, k, got)
			}
		}
	}
	if _, is := config.Find(api.Config{}, ""); is {
		t.Error("a zero one has a tenant")
	}
	if _, is := config.Token(api.Tenant{Name: "a"}, "a"); is {
		t.Error("a tenant without tokens has one")
	}
}

func TestFindOfWhatIsNotRight(t *testing.T) {
	c := api.Config{Tenants: []api.Tenant{{Name: "b", Names: 1}, {Name: "", Names: 2}, {Name: "a", Names: 3}, {Name: "b", Names: 4}, {Name: "A b", Names: 99}, {Name: "a", Names: 5}, {Name: "", Names: 6}}}
	for s, want := range map[string]int{"b": 1, "": 2, "a": 3, "A b": 99} {
		if x, is := config.Find(c, s); !is || x.Names != want || x.Name != s {
			t.Errorf("%q is %v, %t: the first one has %d names", s, x, is, want)
		}
	}
	x := api.Tenant{Tokens: []api.Token{{Name: "b", Until: 1}, {Name: "", Until: -2}, {Name: "a", Until: 3}, {Name: "b", Until: 4}, {Name: "a", Until: 5}, {Name: "", Until: 6}}}
	for s, want := range map[string]int64{"b": 1, "": -2, "a": 3} {
		if k, is := config.Token(x, s); !is || k.Until != want || k.Name != s {
			t.Errorf("%q is %v, %t: the first one is until %d", s, k, is, want)
		}
	}
	many := api.Config{}
	for i := range 1000 {
		many.Tenants = append(many.Tenants, api.Tenant{Name: strconv.Itoa(i), Names: i})
	}
	for i := range 1000 {
		if x, is := config.Find(many, strconv.Itoa(i)); !is || x.Names != i {
			t.Errorf("%d is %v, %t", i, x, is)
		}
	}
	if config.Right(many) {
		t.Error("a thousand are right")
	}
}

// P3: what is handed in is not changed and not kept, and what comes out is new memory.

// roomy is whole's, with lists that have spare room, which is written over.
func roomy() api.Config {
	c := ofWhole()
	c.Tenants = slices.Grow(c.Tenants, 4)
	room := c.Tenants[:cap(c.Tenants)]
	for i := range room {
		x := &room[i]
		if i >= len(c.Tenants) {
			*x = api.Tenant{Name: "spare", Names: i}
		}
		x.Nets, x.Tokens = slices.Grow(x.Nets, 3), slices.Grow(x.Tokens, 3)
		nets, tokens := x.Nets[:cap(x.Nets)], x.Tokens[:cap(x.Tokens)]
		for k := len(x.Nets); k < len(nets); k++ {
			nets[k] = api.Net{Addr: 77, Bits: 7}
		}
		for k := len(x.Tokens); k < len(tokens); k++ {
			tokens[k] = api.Token{Name: "spare", Secret: "spare", Until: 7}
		}
	}
	return c
}

// all is c with its spare room, told in a text.
func all(c api.Config) string {
	s := fmt.Sprint(c.Wait, c.Grace, c.Idle, c.Lease)
	for _, x := range c.Tenants[:cap(c.Tenants)] {
		s += fmt.Sprintf("\n%q %d %d %d %d %v %v", x.Name, x.Names, x.Visitors, len(x.Nets), len(x.Tokens), x.Nets[:cap(x.Nets)], x.Tokens[:cap(x.Tokens)])
	}
	return s
}

// spoil writes over all of a tenant's lists, and their spare room.
func spoil(x api.Tenant) {
	nets, tokens := x.Nets[:cap(x.Nets)], x.Tokens[:cap(x.Tokens)]
	for i := range nets {
		nets[i] = api.Net{Addr: 99, Bits: 99}
	}
	for i := range tokens {
		tokens[i] = api.Token{Name: "spoiled", Secret: "spoiled", Until: -99}
	}
}

func TestNothingIsChanged(t *testing.T) {
	c := roomy()
	before := all(c)
	wrong := roomy()
	wrong.Tenants[3].Tokens[0].Secret = ""
	spoiled := all(wrong)
	for range 3 {
		if !config.Right(c) || config.Print(c) != whole || config.Right(wrong) || config.Print(wrong) != "" {
			t.Fatal(config.Print(c))
		}
		for _, s := range []string{"ann", "bob", "cid", "dan", "spare", ""} {
			x, is := config.Find(c, s)
			if is != (s != "spare" && s != "") {
				t.Errorf("%q: %t", s, is)
			}
			config.Token(x, "k")
			for _, x := range c.Tenants {
				if k, is := config.Token(x, "spare"); is {
					t.Errorf("%s has %v", x.Name, k)
				}
				config.Token(x, s)
			}
		}
		if all(c) != before || all(wrong) != spoiled {
			t.Fatal("what was handed in is another one")
		}
	}
}

func TestWhatIsFoundIsNewMemory(t *testing.T) {
	c := roomy()
	before := all(c)
	for _, s := range []string{"ann", "bob", "cid", "dan", "eve"} {
		x, _ := config.Find(c, s)
		again, _ := config.Find(c, s)
		spoil(x)
		_ = append(x.Nets, api.Net{Addr: 5})
		_ = append(x.Tokens, api.Token{Name: "five"})
		if all(c) != before {
			t.Fatalf("%s shares its lists with what was handed in", s)
		}
		if third, _ := config.Find(c, s); !reflect.DeepEqual(third, again) {
			t.Fatalf("%s is %v, was %v", s, third, again)
		}
	}
	x, _ := config.Find(c, "ann")
	for i := range c.Tenants {
		spoil(c.Tenants[i])
	}
	if x.Nets[0] != (api.Net{Addr: 10 << 24, Bits: 8}) || x.Tokens[1] != (api.Token{Name: "l", Secret: "a"}) {
		t.Errorf("what was found is %v now", x)
	}
}

func TestWhatIsParsedIsNewMemory(t *testing.T) {
	just := printed(long(t, mostText))
	for _, s := range []string{head, whole, just} {
		for i := range 8 {
			first, _, _ := config.Parse(s)
			want := after(t, s)
			if i < len(first.Tenants) {
				spoil(first.Tenants[i])
				first.Tenants[i] = want.Tenants[i]
			}
			if !same(first, want) {
				t.Fatalf("tenant %d shares its lists with another one", i)
			}
			for k := range first.Tenants {
				first.Tenants[k] = api.Tenant{Name: "spoiled"}
			}
			_ = append(first.Tenants, api.Tenant{Name: "spoiled"})
			if again := after(t, s); !same(again, want) {
				t.Fatalf("%v is %v now", want, again)
			}
		}
	}
}

// P1: nothing panics.
func TestNothingPanics(t *testing.T) {
	for _, c := range []api.Config{{}, {Tenants: make([]api.Tenant, 9)}, {Wait: 1, Grace: 1, Idle: 1, Lease: 1, Tenants: make([]api.Tenant, 3)}, {Wait: 1, Grace: 1, Idle: 1, Lease: 1, Tenants: []api.Tenant{{Name: "a", Nets: make([]api.Net, 1<<16), Tokens: make([]api.Token, 1<<16)}}}, {Wait: 1, Grace: 1, Idle: 1, Lease: 1, Tenants: []api.Tenant{{Name: "a", Nets: []api.Net{{Bits: math.MinInt}}}}}} {
		if config.Right(c) || config.Print(c) != "" {
			t.Error(len(c.Tenants))
		}
		for _, s := range []string{"", "a", strings.Repeat("a", 1<<16), "\xff"} {
			x, _ := config.Find(c, s)
			config.Token(x, s)
			parsed(t, s)
		}
	}
}
