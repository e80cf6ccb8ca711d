package gate_test

import (
	"math"
	"reflect"
	"slices"
	"strings"
	"testing"
	"unsafe"

	"subway/api"
	"subway/gate"
)

const mostTime = 1 << 30

// first and last are the least and the greatest address.
const (
	first = 0
	last  = math.MaxUint32
)

// ofAll is a configuration of tenants that may have all numbers of both kinds; of some nets are within one another, or beside.
func ofAll() api.Config {
	return api.Config{Wait: 4, Grace: 3, Idle: 2, Lease: 1, Tenants: []api.Tenant{
		{Name: "a", Names: 1, Visitors: 2, Nets: []api.Net{{Addr: 10 << 24, Bits: 8}}, Tokens: []api.Token{{Name: "k", Secret: "s", Until: 5}}},
		{Name: "a-b", Names: 2, Visitors: 1},
		{Name: "ab", Visitors: 8, Nets: []api.Net{{Addr: 0x0a000000, Bits: 8}, {Addr: 0x0b010000, Bits: 16}}},
		{Name: "ann", Names: 8, Nets: []api.Net{{Addr: 0x0a010203, Bits: 32}}},
		{Name: "b", Nets: []api.Net{{}}},
		{Name: "bob", Names: 3, Visitors: 3},
		{Name: "cid", Names: 8, Visitors: 8, Nets: []api.Net{{Addr: 0xc0a80000, Bits: 24}, {Addr: 0xc0a80200, Bits: 24}, {Addr: 0xc0a80280, Bits: 25}, {Addr: last, Bits: 32}}},
		{Name: "z-9", Names: 7, Visitors: 4, Nets: []api.Net{{Addr: 1 << 31, Bits: 1}}},
	}}
}

// ofOne is a configuration with that tenant alone.
func ofOne(t api.Tenant) api.Config {
	return api.Config{Wait: 1, Grace: 1, Idle: 1, Lease: 1, Tenants: []api.Tenant{t}}
}

// strange are names that no tenant of ofAll has.
func strange() []string {
	return []string{"", " ", "A", "a ", " a", "a\x00", "\x00", "a-", "-a", "aa", "an", "annn", "ANN", "bo", "bobb", "eve", "z", "z-", "9", "k", "\xff", strings.Repeat("a", 20), strings.Repeat("a", 1<<16)}
}

// kinds are what a tenant has some of.
func kinds() []int {
	return []int{1, 2}
}

// nothings are no kinds.
func nothings() []int {
	return []int{0, 3, -1, -2, 4, 8, 1 << 32, 1<<32 + 1, 1<<32 + 2, math.MaxInt, math.MaxInt - 1, math.MinInt, math.MinInt + 1, math.MinInt + 2}
}

// fresh is a gate of a configuration that is right.
func fresh(t *testing.T, c api.Config) *gate.Gate {
	t.Helper()
	g := gate.New(c)
	if g == nil {
		t.Fatalf("there is no gate of %v", c)
	}
	return g
}

// P11.1, K1: of what there is a gate.

func TestNoGateOfWhatIsNotRight(t *testing.T) {
	for what, spoil := range map[string]func(c *api.Config){
		"nothing":                  func(c *api.Config) { *c = api.Config{} },
		"no time to wait":          func(c *api.Config) { c.Wait = 0 },
		"grace below 0":            func(c *api.Config) { c.Grace = -1 },
		"idle too long":            func(c *api.Config) { c.Idle = mostTime + 1 },
		"no lease":                 func(c *api.Config) { c.Lease = 0 },
		"too many tenants":         func(c *api.Config) { c.Tenants = append(c.Tenants, api.Tenant{Name: "zz"}) },
		"a tenant twice":           func(c *api.Config) { c.Tenants[1].Name = "a" },
		"tenants that fall":        func(c *api.Config) { slices.Reverse(c.Tenants) },
		"a tenant without a name":  func(c *api.Config) { c.Tenants[0].Name = "" },
		"a tenant that is no name": func(c *api.Config) { c.Tenants[7].Name = "z-" },
		"9 names":                  func(c *api.Config) { c.Tenants[2].Names = 9 },
		"-1 names":                 func(c *api.Config) { c.Tenants[2].Names = -1 },
		"9 visitors":               func(c *api.Config) { c.Tenants[2].Visitors = 9 },
		"-1 visitors":              func(c *api.Config) { c.Tenants[2].Visitors = -1 },
		"a net with a bit behind":  func(c *api.Config) { c.Tenants[6].Nets[3] = api.Net{Addr: 1, Bits: 31} },
		"a net of 33 bits":         func(c *api.Config) { c.Tenants[6].Nets[3] = api.Net{Bits: 33} },
		"a net of -1 bits":         func(c *api.Config) { c.Tenants[6].Nets[3] = api.Net{Bits: -1} },
		"5 nets":                   func(c *api.Config) { c.Tenants[1].Nets = make([]api.Net, 5) },
		"a token without a secret": func(c *api.Config) { c.Tenants[0].Tokens[0].Secret = "" },
		"a token that is no name":  func(c *api.Config) { c.Tenants[0].Tokens[0].Name = "K" },
		"until below 0":            func(c *api.Config) { c.Tenants[0].Tokens[0].Until = -1 },
		"a token twice": func(c *api.Config) {
			c.Tenants[0].Tokens = append(c.Tenants[0].Tokens, c.Tenants[0].Tokens[0])
		},
	} {
		c := ofAll()
		if gate.New(c) == nil {
			t.Fatal("there is no gate of what is right")
		}
		if spoil(&c); gate.New(c) != nil {
			t.Errorf("%s: there is a gate of it", what)
		}
	}
}

func TestGateWithoutTenants(t *testing.T) {
	for _, tenants := range [][]api.Tenant{nil, {}} {
		g := fresh(t, api.Config{Wait: 1, Grace: mostTime, Idle: 1, Lease: mostTime, Tenants: tenants})
		for _, name := range append(strange(), "a", "ann") {
			lacks(t, g, name)
		}
	}
}

// lacks holds that there is no tenant of that name.
func lacks(t *testing.T, g *gate.Gate, name string) {
	t.Helper()
	for _, addr := range []uint32{first, 1, 0x0a010203, 1 << 31, last} {
		if e := g.Admit(name, addr); e != api.ErrNone {
			t.Errorf("Admit %.30q, of %#x: %d", name, addr, e)
		}
	}
	for _, what := range kinds() {
		if e := g.Take(name, what); e != api.ErrNone {
			t.Errorf("Take %.30q, of %d: %d", name, what, e)
		}
		if g.Give(name, what) || g.Used(name, what) != 0 {
			t.Errorf("%.30q has %d of %d, or had", name, g.Used(name, what), what)
		}
	}
	for _, what := range nothings() { // that it is nothing is told first
		if e := g.Take(name, what); e != api.ErrArg {
			t.Errorf("Take %.30q, of %d, which is nothing: %d", name, what, e)
		}
		if g.Give(name, what) || g.Used(name, what) != 0 {
			t.Errorf("%.30q has %d of %d, which is nothing, or had", name, g.Used(name, what), what)
		}
	}
}

func TestTenantsThatThereAreNot(t *testing.T) {
	g, m := fresh(t, ofAll()), newModel(ofAll())
	for _, name := range strange() {
		lacks(t, g, name)
	}
	m.like(t, g)
	m.fill(t, g)
	for _, name := range strange() {
		lacks(t, g, name)
	}
	m.like(t, g)
}

// P11.1, K1: who is admitted.

func TestAdmit(t *testing.T) {
	g := fresh(t, ofAll())
	for _, x := range []struct {
		tenant string
		in     []uint32
		out    []uint32
	}{
		// one net
		{"a", []uint32{0x0a000000, 0x0a000001, 0x0a010203, 0x0affffff}, []uint32{0x09ffffff, 0x0b000000, 0x0b010203, first, last, 0x8a000000}},
		// none: from everywhere
		{"a-b", []uint32{first, 1, 0x0a010203, 0x7fffffff, 1 << 31, last}, nil},
		// in the second net alone
		{"ab", []uint32{0x0a000000, 0x0affffff, 0x0b010000, 0x0b010203, 0x0b01ffff}, []uint32{0x09ffffff, 0x0b000000, 0x0b00ffff, 0x0b020000, 0x0b020203, first, last}},
		// a net of 32 bits
		{"ann", []uint32{0x0a010203}, []uint32{0x0a010202, 0x0a010204, first, last, 0x8a010203, 0x0a010203 ^ 1<<16}},
		// one of 0 bits
		{"b", []uint32{first, 1, 0x0a010203, 0x7fffffff, 1 << 31, last}, nil},
		// none, again
		{"bob", []uint32{first, 0x0a010203, last}, nil},
		// four, one within another one
		{"cid", []uint32{0xc0a80000, 0xc0a800ff, 0xc0a80200, 0xc0a8027f, 0xc0a80280, 0xc0a802ff, last}, []uint32{0xc0a7ffff, 0xc0a80100, 0xc0a801ff, 0xc0a80300, last - 1, last - 255, first, 0x40a80000}},
		// one of 1 bit
		{"z-9", []uint32{1 << 31, 1<<31 + 1, 0xc0a80000, last}, []uint32{first, 1, 0x0a010203, 0x7fffffff}},
	} {
		for _, addr := range x.in {
			if e := g.Admit(x.tenant, addr); e != api.OK {
				t.Errorf("%s, of %#x: %d", x.tenant, addr, e)
			}
		}
		for _, addr := range x.out {
			if e := g.Admit(x.tenant, addr); e != api.ErrNet {
				t.Errorf("%s, of %#x: %d", x.tenant, addr, e)
			}
		}
	}
}

// A net of each size, alone or beside another one: its first and its last address are in it, what is next to these is not.
func TestAdmitAtTheEndsOfNets(t *testing.T) {
	home := api.Net{Addr: 0x7f000001, Bits: 32}
	for bits := range 33 {
		for _, addr := range []uint32{0x0a010203, 0x80000000, 0x63646566, first, last} {
			many := uint64(1) << (32 - bits)
			begin := uint64(addr) / many * many
			n := api.Net{Addr: uint32(begin), Bits: bits}
			for _, nets := range [][]api.Net{{n}, {n, n, n, n}, {home, n}, {n, home}, {home, home, home, n}} {
				g := fresh(t, ofOne(api.Tenant{Name: "ann", Nets: nets}))
				for _, at := range []uint64{begin - 1, begin, begin + 1, begin + many/2, begin + many - 1, begin + many, 0x7f000000, 0x7f000001} {
					a, want := uint32(at), api.ErrNet // what is ahead of the first address is the last one
					if uint64(a) >= begin && uint64(a) < begin+many || a == home.Addr && slices.Contains(nets, home) {
						want = api.OK
					}
					if e := g.Admit("ann", a); e != want {
						t.Errorf("%#x in %v: %d, not %d", a, nets, e, want)
					}
				}
			}
		}
	}
}

// An empty list of nets is none, nil or not.
func TestAdmitWithoutNets(t *testing.T) {
	for _, nets := range [][]api.Net{nil, {}, make([]api.Net, 0, 4)} {
		g := fresh(t, ofOne(api.Tenant{Name: "ann", Nets: nets}))
		for _, addr := range []uint32{first, 1, 0x0a010203, last} {
			if e := g.Admit("ann", addr); e != api.OK {
				t.Errorf("%#x: %d", addr, e)
			}
		}
	}
}

// Who comes is not counted: how many a tenant has, or may, says nothing of who is admitted, nor the other way round.
func TestAdmitCountsNothing(t *testing.T) {
	g, m := fresh(t, ofAll()), newModel(ofAll())
	admitted := func() {
		for range 20 {
			if e := g.Admit("b", 7); e != api.OK { // it may have none of anything
				t.Errorf("b: %d", e)
			}
			if e := g.Admit("a", 0x0a000000); e != api.OK {
				t.Errorf("a, in its net: %d", e)
			}
			if e := g.Admit("a", 0x0b000000); e != api.ErrNet {
				t.Errorf("a, beside its net: %d", e)
			}
			if e := g.Admit("eve", 0x0b000000); e != api.ErrNone {
				t.Errorf("eve: %d", e)
			}
		}
		m.like(t, g)
	}
	admitted()
	m.fill(t, g)
	admitted()
}

// P11.1, K2: the chapter's example.

func TestOneVisitor(t *testing.T) {
	g := fresh(t, ofOne(api.Tenant{Name: "ann", Visitors: 1}))
	if e := g.Take("ann", api.Visitors); e != api.OK {
		t.Errorf("the first Take: %d", e)
	}
	if e := g.Take("ann", api.Visitors); e != api.ErrQuota {
		t.Errorf("the second Take: %d", e)
	}
}

// P11.1, K2, and P11.2: how many one may have, from none on up to 8.

func TestUpToTheMost(t *testing.T) {
	for most := range 9 {
		for _, what := range kinds() {
			one := api.Tenant{Name: "ann", Names: most, Visitors: 8 - most}
			if what == api.Visitors {
				one = api.Tenant{Name: "ann", Names: 8 - most, Visitors: most}
			}
			g := fresh(t, ofOne(one))
			if g.Used("ann", what) != 0 || g.Give("ann", what) {
				t.Errorf("%v: at first it has some of %d", one, what)
			}
			for has := range most {
				if e := g.Take("ann", what); e != api.OK || g.Used("ann", what) != has+1 {
					t.Errorf("%v: Take %d, with %d: %d, and it has %d", one, what, has, e, g.Used("ann", what))
				}
			}
			for range 3 {
				if e := g.Take("ann", what); e != api.ErrQuota || g.Used("ann", what) != most {
					t.Errorf("%v: Take %d, with as many as may be: %d, and it has %d", one, what, e, g.Used("ann", what))
				}
			}
			if most > 0 { // behind a Give there is room for one, and no more
				if !g.Give("ann", what) || g.Used("ann", what) != most-1 {
					t.Errorf("%v: behind Give %d it has %d", one, what, g.Used("ann", what))
				}
				if e := g.Take("ann", what); e != api.OK || g.Used("ann", what) != most {
					t.Errorf("%v: Take %d, behind a Give: %d, and it has %d", one, what, e, g.Used("ann", what))
				}
				if e := g.Take("ann", what); e != api.ErrQuota || g.Used("ann", what) != most {
					t.Errorf("%v: Take %d, when what was given is taken: %d, and it has %d", one, what, e, g.Used("ann", what))
				}
			}
			for has := most; has > 0; has-- {
				if !g.Give("ann", what) || g.Used("ann", what) != has-1 {
					t.Errorf("%v: behind Give %d, with %d, it has %d", one, what, has, g.Used("ann", what))
				}
			}
			for range 3 { // none less than none, and none is owed
				if g.Give("ann", what) || g.Used("ann", what) != 0 {
					t.Errorf("%v: Give %d, with none, and it has %d", one, what, g.Used("ann", what))
				}
			}
			for range most {
				if e := g.Take("ann", what); e != api.OK {
					t.Errorf("%v: Take %d, when all was given: %d", one, what, e)
				}
			}
			if e := g.Take("ann", what); e != api.ErrQuota {
				t.Errorf("%v: Take %d, one too many, when all was given: %d", one, what, e)
			}
			if other := 3 - what; g.Used("ann", other) != 0 || g.Give("ann", other) {
				t.Errorf("%v: it has %d of %d, of which none was taken", one, g.Used("ann", other), other)
			}
		}
	}
}

func TestNumbersOfKinds(t *testing.T) {
	if api.Names != 1 || api.Visitors != 2 {
		t.Fatal("the kinds are others")
	}
	g := fresh(t, ofOne(api.Tenant{Name: "ann", Names: 1, Visitors: 2}))
	for _, x := range []struct {
		what int
		want api.Errno
	}{{0, api.ErrArg}, {1, api.OK}, {1, api.ErrQuota}, {2, api.OK}, {2, api.OK}, {2, api.ErrQuota}, {3, api.ErrArg}, {-1, api.ErrArg}} {
		if e := g.Take("ann", x.what); e != x.want {
			t.Errorf("Take %d: %d, not %d", x.what, e, x.want)
		}
	}
	for what, want := range map[int]int{-1: 0, 0: 0, 1: 1, 2: 2, 3: 0} {
		if n := g.Used("ann", what); n != want {
			t.Errorf("Used %d: %d, not %d", what, n, want)
		}
	}
	for _, x := range []struct{ what, want int }{{0, 0}, {3, 0}, {-1, 0}, {1, 1}, {1, 0}, {2, 1}, {2, 1}, {2, 0}} {
		if g.Give("ann", x.what) != (x.want == 1) {
			t.Errorf("Give %d is not %d", x.what, x.want)
		}
	}
}

func TestWhatIsNothing(t *testing.T) {
	g, m := fresh(t, ofAll()), newModel(ofAll())
	nothing := func() {
		for _, what := range nothings() {
			for _, one := range ofAll().Tenants {
				if e := g.Take(one.Name, what); e != api.ErrArg {
					t.Errorf("Take %s, of %d: %d", one.Name, what, e)
				}
				if g.Give(one.Name, what) || g.Used(one.Name, what) != 0 {
					t.Errorf("%s has %d of %d, or had", one.Name, g.Used(one.Name, what), what)
				}
			}
		}
		m.like(t, g)
	}
	nothing()
	m.fill(t, g)
	nothing()
}

// What is nothing is told ahead of that there is no such tenant, and that ahead of that it has too many.
func TestTakeNamesErrArgFirst(t *testing.T) {
	g, m := fresh(t, ofAll()), newModel(ofAll())
	m.fill(t, g)
	for _, x := range []struct {
		tenant string
		what   int
		want   api.Errno
	}{{"eve", 0, api.ErrArg}, {"eve", 3, api.ErrArg}, {"eve", -1, api.ErrArg}, {"", 0, api.ErrArg}, {"ann", 3, api.ErrArg}, {"b", 0, api.ErrArg}, {"eve", 1, api.ErrNone}, {"eve", 2, api.ErrNone}, {"", 1, api.ErrNone}, {"ann", 1, api.ErrQuota}, {"ann", 2, api.ErrQuota}, {"b", 1, api.ErrQuota}, {"b", 2, api.ErrQuota}} {
		if e := g.Take(x.tenant, x.what); e != x.want {
			t.Errorf("Take %q, of %d: %d, not %d", x.tenant, x.what, e, x.want)
		}
	}
	m.like(t, g)
}

// P11.2 and P11.3: what one has is what was taken, less what was given, by itself alone.

// model is a gate, by the chapter's words: how many each may have, and all that was taken and given.
type model struct {
	tenants []api.Tenant
	rows    map[string]map[int][]int // of a tenant, of a kind: 1 for each Take, -1 for each Give that went well
}

func newModel(c api.Config) model {
	m := model{c.Tenants, map[string]map[int][]int{}}
	for _, t := range c.Tenants {
		m.rows[t.Name] = map[int][]int{1: {}, 2: {}}
	}
	return m
}

func (m model) used(name string, what int) int {
	many := 0
	for _, n := range m.rows[name][what] {
		many += n
	}
	return many
}

func (m model) most(name string, what int) int {
	for _, t := range m.tenants {
		if t.Name == name {
			return []int{0, t.Names, t.Visitors}[what]
		}
	}
	return -1
}

func (m model) take(name string, what int) api.Errno {
	switch {
	case what != 1 && what != 2:
		return api.ErrArg
	case m.rows[name] == nil:
		return api.ErrNone
	case m.used(name, what) == m.most(name, what):
		return api.ErrQuota
	}
	m.rows[name][what] = append(m.rows[name][what], 1)
	return api.OK
}

func (m model) give(name string, what int) bool {
	if m.used(name, what) == 0 {
		return false
	}
	m.rows[name][what] = append(m.rows[name][what], -1)
	return true
}

// fill has all tenants have as many as they may.
func (m model) fill(t *testing.T, g *gate.Gate) {
	t.Helper()
	for _, one := range m.tenants {
		for _, what := range kinds() {
			for m.used(one.Name, what) < m.most(one.Name, what) {
				if e := g.Take(one.Name, what); e != m.take(one.Name, what) {
					t.Fatalf("Take %s, of %d: %d", one.Name, what, e)
				}
			}
		}
	}
	m.like(t, g)
}

// like holds a gate against the model, at all tenants, twice: to ask changes nothing.
func (m model) like(t *testing.T, g *gate.Gate) {
	t.Helper()
	for range 2 {
		for _, one := range m.tenants {
			for _, what := range []int{-1, 0, 1, 2, 3} {
				if n := g.Used(one.Name, what); n != m.used(one.Name, what) {
					t.Fatalf("%s has %d of %d, not %d", one.Name, n, what, m.used(one.Name, what))
				}
			}
		}
	}
}

// Whoever has as many as may be, of one kind: each of all others, and the other kind, may have as many as ever.
func TestEachTenantAndKindIsApart(t *testing.T) {
	for _, one := range ofAll().Tenants {
		for _, what := range kinds() {
			g, m := fresh(t, ofAll()), newModel(ofAll())
			for range 9 { // one more than anyone may have
				if e := g.Take(one.Name, what); e != m.take(one.Name, what) {
					t.Errorf("Take %s, of %d: %d", one.Name, what, e)
				}
				m.like(t, g)
			}
			for _, other := range ofAll().Tenants {
				for _, kind := range kinds() {
					if (other.Name != one.Name || kind != what) && g.Give(other.Name, kind) {
						t.Errorf("%s has some of %d, that %s took of %d", other.Name, kind, one.Name, what)
					}
				}
			}
			m.like(t, g)
			m.fill(t, g)
			for _, other := range ofAll().Tenants {
				for _, kind := range kinds() {
					if e := g.Take(other.Name, kind); e != api.ErrQuota {
						t.Errorf("when all have as many as they may, Take %s, of %d: %d", other.Name, kind, e)
					}
				}
			}
			for range 9 {
				if is := g.Give(one.Name, what); is != m.give(one.Name, what) {
					t.Errorf("Give %s, of %d: %t", one.Name, what, is)
				}
				m.like(t, g)
			}
		}
	}
}

func TestRowsOfCalls(t *testing.T) {
	seed := uint64(1)
	below := func(n int) int {
		seed = seed*6364136223846793005 + 1442695040888963407
		return int((seed >> 33) % uint64(n))
	}
	for range 100 {
		c := ofAll()
		if below(3) == 0 {
			c.Tenants = c.Tenants[below(8):][:1]
		}
		for i := range c.Tenants {
			c.Tenants[i].Names, c.Tenants[i].Visitors = below(9), below(9)
		}
		g, m := fresh(t, c), newModel(c)
		lean := 1 + below(4) // some rows take more, some give more
		for range 200 {
			name, what := strange()[below(6)], below(5)-1
			if below(8) > 0 {
				name, what = c.Tenants[below(len(c.Tenants))].Name, 1+below(2)
			}
			if below(5) < lean {
				if e, want := g.Take(name, what), m.take(name, what); e != want {
					t.Fatalf("Take %q, of %d: %d, not %d", name, what, e, want)
				}
			} else if is, want := g.Give(name, what), m.give(name, what); is != want {
				t.Fatalf("Give %q, of %d: %t, not %t", name, what, is, want)
			}
			for _, one := range c.Tenants {
				for _, what := range kinds() {
					if n := g.Used(one.Name, what); n < 0 || n > m.most(one.Name, what) {
						t.Fatalf("%s has %d of %d, and may have %d", one.Name, n, what, m.most(one.Name, what))
					}
				}
			}
			m.like(t, g)
		}
	}
}

// Two gates of one configuration know nothing of one another.
func TestGatesAreApart(t *testing.T) {
	c := ofAll()
	g, other, none := fresh(t, c), fresh(t, c), newModel(c)
	newModel(c).fill(t, g)
	none.like(t, other)
	none.like(t, fresh(t, c))
	none.fill(t, other)
}

// P3: what is handed in is not changed, and not kept.

// roomy is ofAll, with lists that have spare room, which is written over.
func roomy() api.Config {
	c := ofAll()
	c.Tenants = append(c.Tenants, api.Tenant{Name: "spare", Names: 8, Visitors: 8})[:len(c.Tenants)]
	for i := range c.Tenants {
		t := &c.Tenants[i]
		t.Nets = append(t.Nets, api.Net{Addr: 7, Bits: 32})[:len(t.Nets)]
		t.Tokens = append(t.Tokens, api.Token{Name: "zz", Secret: "spare", Until: 7})[:len(t.Tokens)]
	}
	return c
}

// spread is c with its spare room in sight.
func spread(c api.Config) api.Config {
	c.Tenants = slices.Clone(c.Tenants[:cap(c.Tenants)])
	for i := range c.Tenants {
		t := &c.Tenants[i]
		t.Nets, t.Tokens = slices.Clone(t.Nets[:cap(t.Nets)]), slices.Clone(t.Tokens[:cap(t.Tokens)])
	}
	return c
}

func TestConfigurationIsNotChanged(t *testing.T) {
	c := roomy()
	before := spread(c)
	g, m := fresh(t, c), newModel(ofAll())
	m.fill(t, g)
	lacks(t, g, "spare")
	for _, one := range ofAll().Tenants {
		g.Admit(one.Name, 7)
		g.Give(one.Name, api.Names)
		g.Give(one.Name, api.Visitors)
	}
	if !reflect.DeepEqual(spread(c), before) {
		t.Errorf("it is %v, was %v", spread(c), before)
	}
}

func TestConfigurationIsNotKept(t *testing.T) {
	c := roomy()
	g, m := fresh(t, c), newModel(ofAll())
	for i := range c.Tenants {
		nets := c.Tenants[i].Nets[:cap(c.Tenants[i].Nets)]
		for k := range nets {
			nets[k] = api.Net{Addr: 7, Bits: 32}
		}
		c.Tenants[i] = api.Tenant{Name: "spoiled", Names: 8, Visitors: 8}
	}
	for _, x := range []struct {
		tenant string
		addr   uint32
		want   api.Errno
	}{{"a", 0x0a000000, api.OK}, {"a", 7, api.ErrNet}, {"ab", 0x0b010000, api.OK}, {"ann", 0x0a010203, api.OK}, {"ann", 7, api.ErrNet}, {"b", last, api.OK}, {"bob", last, api.OK}, {"cid", last, api.OK}, {"cid", 7, api.ErrNet}} {
		if e := g.Admit(x.tenant, x.addr); e != x.want {
			t.Errorf("Admit %s, of %#x: %d, not %d", x.tenant, x.addr, e, x.want)
		}
	}
	m.fill(t, g)
	for _, one := range ofAll().Tenants {
		for _, what := range kinds() {
			if e := g.Take(one.Name, what); e != api.ErrQuota {
				t.Errorf("Take %s, of %d: %d", one.Name, what, e)
			}
		}
	}
	lacks(t, g, "spoiled")
	lacks(t, g, "spare")
}

// A text whose bytes change behind the call shows whether it is kept.
func TestNamesAreNotKept(t *testing.T) {
	name := []byte("ann")
	g := fresh(t, ofOne(api.Tenant{Name: unsafe.String(&name[0], len(name)), Names: 1, Visitors: 1}))
	asked := []byte("ann")
	if e := g.Take(unsafe.String(&asked[0], len(asked)), api.Names); e != api.OK {
		t.Errorf("Take: %d", e)
	}
	copy(name, "eve")
	copy(asked, "eve")
	if g.Used("ann", api.Names) != 1 || g.Take("ann", api.Visitors) != api.OK || g.Admit("ann", 7) != api.OK {
		t.Error("ann is there no more, when the bytes of the name that was handed in are others")
	}
	lacks(t, g, "eve")
}
