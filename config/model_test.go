package config_test

import (
	"encoding/hex"
	"fmt"
	"maps"
	"net/netip"
	"reflect"
	"regexp"
	"slices"
	"strconv"
	"strings"
	"testing"

	"subway/api"
	"subway/config"
)

// The greatest time, the greatest number, and how long a text may be.
const (
	mostTime = 1 << 30
	mostNum  = 1 << 40
	mostText = 4096
)

// head is a line that every text begins with, here.
const head = "times 9 8 7 6\n"

// whole is a text with all kinds of lines.
const whole = "times 9 8 7 6\ntenant ann 2 3\nnet 10.0.0.0/8\nnet 0.0.0.0/0\ntoken k 00ff 5\ntoken l 61 0\ntenant bob 0 8\ntenant cid 1 0\nnet 10.1.2.3/32\ntenant dan 8 1\ntoken a-1 7365637265740a 1099511627776\n"

// ofWhole is what whole says.
func ofWhole() api.Config {
	return api.Config{Wait: 9, Grace: 8, Idle: 7, Lease: 6, Tenants: []api.Tenant{
		{Name: "ann", Names: 2, Visitors: 3, Nets: []api.Net{{Addr: 10 << 24, Bits: 8}, {}}, Tokens: []api.Token{{Name: "k", Secret: "\x00\xff", Until: 5}, {Name: "l", Secret: "a"}}},
		{Name: "bob", Visitors: 8},
		{Name: "cid", Names: 1, Nets: []api.Net{{Addr: 0x0a010203, Bits: 32}}},
		{Name: "dan", Names: 8, Visitors: 1, Tokens: []api.Token{{Name: "a-1", Secret: "secret\n", Until: mostNum}}},
	}}
}

// draw is a row of numbers that look drawn, the same ones each time.
type draw uint64

// below is the next one, of 0 to n - 1.
func (d *draw) below(n int) int {
	*d = *d*6364136223846793005 + 1442695040888963407
	return int(uint64(*d) >> 33 % uint64(n))
}

// of is one of these.
func of[T any](d *draw, row ...T) T {
	return row[d.below(len(row))]
}

// word is of so many bytes, of these.
func (d *draw) word(many int, from string) string {
	s := make([]byte, many)
	for i := range s {
		s[i] = from[d.below(len(from))]
	}
	return string(s)
}

// names are so many, that rise.
func (d *draw) names(many int) []string {
	set := map[string]int{}
	for len(set) < many {
		set[d.word(of(d, 1, 1, 2, 3, 20), "abz019")] = 1
	}
	return slices.Sorted(maps.Keys(set))
}

func (d *draw) time() int64 {
	return of(d, 1, 2, 9, 10, 300, int64(1+d.below(mostTime)), mostTime-1, mostTime)
}

// config is one that is right.
func (d *draw) config() api.Config {
	c := api.Config{Wait: d.time(), Grace: d.time(), Idle: d.time(), Lease: d.time()}
	for _, name := range d.names(of(d, 0, 1, 2, 3, 8)) {
		t := api.Tenant{Name: name, Names: d.below(9), Visitors: d.below(9)}
		for range d.below(5) {
			bits := d.below(33)
			t.Nets = append(t.Nets, api.Net{Addr: uint32(uint64(d.below(1<<31)) * 3 >> (32 - bits) << (32 - bits)), Bits: bits})
		}
		for _, name := range d.names(d.below(5)) {
			secret := make([]byte, of(d, 1, 2, 31, 32))
			for i := range secret {
				secret[i] = byte(d.below(256))
			}
			t.Tokens = append(t.Tokens, api.Token{Name: name, Secret: string(secret), Until: of(d, 0, 1, 5, int64(d.below(1<<31))<<9, mostNum-1, mostNum)})
		}
		c.Tenants = append(c.Tenants, t)
	}
	return c
}

// largest has as much as may be, and the longest text.
func largest() api.Config {
	c := api.Config{Wait: mostTime, Grace: mostTime, Idle: mostTime, Lease: mostTime}
	for i := range 8 {
		t := api.Tenant{Name: strings.Repeat("t", 19) + strconv.Itoa(i), Names: 8, Visitors: 8}
		for k := range 4 {
			t.Nets = append(t.Nets, api.Net{Addr: 0xc8c8c8c8 + uint32(k), Bits: 32})
			t.Tokens = append(t.Tokens, api.Token{Name: strings.Repeat("k", 19) + strconv.Itoa(k), Secret: strings.Repeat("\xa0", 32), Until: mostNum})
		}
		c.Tenants = append(c.Tenants, t)
	}
	return c
}

// long is one whose text has so many bytes, 3000 to 4300.
func long(t *testing.T, many int) api.Config {
	t.Helper()
	c := largest()
	over := len(printed(c)) - many
	if over%2 == 1 {
		c.Tenants[0].Name = "0" + c.Tenants[0].Name[2:]
		over--
	}
	for i := range c.Tenants {
		for k := range c.Tenants[i].Tokens {
			less := min(31, over/2)
			c.Tenants[i].Tokens[k].Secret = c.Tenants[i].Tokens[k].Secret[less:]
			over -= 2 * less
		}
	}
	if over != 0 || len(printed(c)) != many {
		t.Fatalf("a text of %d bytes has %d", many, len(printed(c)))
	}
	return c
}

// The chapter's words, held against bytes by other means than the program's.

var (
	name  = `[a-z0-9](?:[-a-z0-9]{0,18}[a-z0-9])?`
	times = regexp.MustCompile(`\Atimes (\d+) (\d+) (\d+) (\d+)\z`)
	one   = regexp.MustCompile(`\Atenant (` + name + `) ([0-8]) ([0-8])\z`)
	net   = regexp.MustCompile(`\Anet ([0-9.]+/[0-9]+)\z`)
	token = regexp.MustCompile(`\Atoken (` + name + `) ((?:[0-9a-f]{2}){1,32}) (\d+)\z`)
)

// printed is the text of one that is right.
func printed(c api.Config) string {
	s := fmt.Sprintf("times %d %d %d %d\n", c.Wait, c.Grace, c.Idle, c.Lease)
	for _, t := range c.Tenants {
		s += fmt.Sprintf("tenant %s %d %d\n", t.Name, t.Names, t.Visitors)
		for _, n := range t.Nets {
			s += fmt.Sprintf("net %d.%d.%d.%d/%d\n", n.Addr>>24, n.Addr>>16&255, n.Addr>>8&255, n.Addr&255, n.Bits)
		}
		for _, k := range t.Tokens {
			s += fmt.Sprintf("token %s %x %d\n", k.Name, k.Secret, k.Until)
		}
	}
	return s
}

// number is that of decimals, if it is 0 to most, and has no 0 ahead.
func number(s string, most int64) (int64, bool) {
	n, err := strconv.ParseInt(s, 10, 64)
	return n, err == nil && n >= 0 && n <= most && strconv.FormatInt(n, 10) == s
}

// said adds to c what a line says.
func said(c *api.Config, at int, s string) bool {
	var t *api.Tenant
	if len(c.Tenants) > 0 {
		t = &c.Tenants[len(c.Tenants)-1]
	}
	if m := times.FindStringSubmatch(s); m != nil {
		is := [4]bool{}
		for i, to := range []*int64{&c.Wait, &c.Grace, &c.Idle, &c.Lease} {
			*to, is[i] = number(m[1+i], mostTime)
			is[i] = is[i] && *to > 0
		}
		return at == 0 && is == [4]bool{true, true, true, true}
	}
	if m := one.FindStringSubmatch(s); m != nil {
		is := at > 0 && len(c.Tenants) < 8 && (t == nil || t.Name < m[1])
		c.Tenants = append(c.Tenants, api.Tenant{Name: m[1], Names: int(m[2][0] - '0'), Visitors: int(m[3][0] - '0')})
		return is
	}
	if m := net.FindStringSubmatch(s); m != nil && t != nil {
		p, err := netip.ParsePrefix(m[1])
		if err != nil || p.Masked() != p {
			return false
		}
		b := p.Addr().As4()
		t.Nets = append(t.Nets, api.Net{Addr: uint32(b[0])<<24 | uint32(b[1])<<16 | uint32(b[2])<<8 | uint32(b[3]), Bits: p.Bits()})
		return len(t.Nets) <= 4 && len(t.Tokens) == 0
	}
	if m := token.FindStringSubmatch(s); m != nil && t != nil {
		secret, _ := hex.DecodeString(m[2])
		until, is := number(m[3], mostNum)
		is = is && len(t.Tokens) < 4 && (len(t.Tokens) == 0 || t.Tokens[len(t.Tokens)-1].Name < m[1])
		t.Tokens = append(t.Tokens, api.Token{Name: m[1], Secret: string(secret), Until: until})
		return is
	}
	return false
}

// model is what Parse answers, by the chapter's words.
func model(s string) (api.Config, api.Errno, int) {
	if len(s) > mostText {
		return api.Config{}, api.ErrTooMany, 0
	}
	all := strings.SplitAfter(s, "\n")
	var c api.Config
	for at, l := range all {
		if l == "" && at > 0 && at == len(all)-1 {
			break
		}
		if !strings.HasSuffix(l, "\n") || !said(&c, at, strings.TrimSuffix(l, "\n")) {
			return api.Config{}, api.ErrWord, at
		}
	}
	return c, api.OK, 0
}

// same: do both say the same? A list without anything may be nil or not.
func same(a, b api.Config) bool {
	return reflect.DeepEqual(bare(a), bare(b))
}

// bare is c with nil for each list that has nothing.
func bare(c api.Config) api.Config {
	out := c
	out.Tenants = nil
	for _, t := range c.Tenants {
		t.Nets, t.Tokens = append([]api.Net(nil), t.Nets...), append([]api.Token(nil), t.Tokens...)
		out.Tenants = append(out.Tenants, t)
	}
	return out
}

// zero: is that no configuration at all?
func zero(c api.Config) bool {
	return same(c, api.Config{})
}

// parsed holds Parse of a text against the model.
func parsed(t *testing.T, s string) {
	t.Helper()
	want, wantErr, wantAt := model(s)
	c, err, at := config.Parse(s)
	if !same(c, want) || err != wantErr || at != wantAt {
		t.Fatalf("Parse of %q is %v, %d, %d, not %v, %d, %d", s, c, err, at, want, wantErr, wantAt)
	}
	if err != api.OK {
		return
	}
	if !config.Right(c) || config.Print(c) != s {
		t.Fatalf("what Parse gives of %q is Right: %t, its text %q", s, config.Right(c), config.Print(c))
	}
}
