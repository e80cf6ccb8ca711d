package broker_test

import (
	"math"
	"slices"
	"strconv"
	"strings"
	"testing"

	"subway/api"
	"subway/broker"
	"subway/mac"
)

// player draws events: mostly such as those who know the document would have come, and some that nobody would.
type player struct {
	draw func(int) int
	m    *model
	left map[int]string // what is to come yet of a connection, so that its next bytes are what they should be
}

// pickOf is one of both, in turn.
func pickOf[T any](n uint32, a T, b T) T {
	if n%2 == 0 {
		return a
	}
	return b
}

// brisk is a configuration of which the times are short, so that a script comes to their ends.
func brisk() api.Config {
	c := config()
	c.Wait, c.Grace, c.Idle, c.Lease = 12, 4, 16, 40
	return c
}

// calm is one of which they are long, so that pairs last, and agents too.
func calm() api.Config {
	c := config()
	c.Wait, c.Grace, c.Idle, c.Lease = 60, 4, 100, 150
	return c
}

func newPlayer(m *model, seed uint32) *player {
	return &player{draw: drawer(seed), m: m, left: map[int]string{}}
}

func pick[T any](p *player, all ...T) T {
	return all[p.draw(len(all))]
}

// event is the next one.
func (p *player) event() api.Ev {
	e := api.Ev{Draw: row(p.draw(251), pick(p, 0, 1, 15, 16, 17, 40, 300))}
	switch n := p.draw(100); {
	case n < 8:
		e.Kind, e.Addr = api.EvConnect, pick(p, uint32(0), 10<<24+5, 9<<24+7, 9<<24+6, math.MaxUint32)
	case n < 70:
		e.Kind, e.Conn = api.EvBytes, p.one()
		e.B = p.piece(e.Conn)
	case n < 84:
		e.Kind, e.Conn, e.N = api.EvBudget, p.one(), int64(pick(p, 0, 1, 20, 60, 100, 300, 600, 2000, 9000))
	case n < 87:
		e.Kind, e.Conn = api.EvHalf, p.one()
		if c := p.m.are[e.Conn]; c != nil && c.Kind < api.RolePaired && p.draw(6) > 0 {
			e.Conn = p.paired()
		}
	case n < 88 && p.draw(3) == 0:
		e.Kind, e.Conn = api.EvReset, p.one()
	case n < 94:
		e.Kind, e.N = api.EvTick, int64(pick(p, 0, 1, 1, 1, 2, 3))
		if p.draw(20) == 0 {
			e.N = 14
		}
	case n < 95 && p.draw(3) == 0:
		e.Kind, e.Name, e.Token = api.EvRevoke, pick(p, "ann", "ann", "bob", "cid"), "l"
		if p.draw(20) == 0 {
			e.Token = "k"
		}
	case n < 96 && p.draw(2) == 0:
		e.Kind, e.Name = api.EvEvict, p.name("")
	default:
		return p.junk()
	}
	return e
}

// paired is one of a pair; none, if there is no pair.
func (p *player) paired() int {
	if all := p.m.pairs(); len(all) > 0 {
		one := all[p.draw(len(all))]
		return pick(p, one.Visitor, one.Caller)
	}
	return 0
}

// junk is an event that has an error, or might have none.
func (p *player) junk() api.Ev {
	return pick(p,
		api.Ev{Kind: pick(p, 0, 9, 10, -1, math.MaxInt, math.MinInt), Conn: p.one()},
		api.Ev{Kind: api.EvBytes, Conn: pick(p, 0, -1, p.m.many+1, math.MaxInt, math.MinInt), B: "junk"},
		api.Ev{Kind: api.EvBudget, Conn: p.one(), N: pick[int64](p, -1, maxBudget+1, maxBudget, math.MaxInt64, math.MinInt64, 1<<32)},
		api.Ev{Kind: api.EvHalf, Conn: p.m.many + 1},
		api.Ev{Kind: api.EvReset, Conn: -p.m.many},
		api.Ev{Kind: api.EvTick, N: pick[int64](p, -1, maxNum+1, math.MaxInt64, math.MinInt64)},
		api.Ev{Kind: api.EvRevoke, Name: pick(p, "", "eve", "ann"), Token: pick(p, "", "z")},
		api.Ev{Kind: api.EvEvict, Name: pick(p, "", "-", "nobody")},
	)
}

// one is a connection; seldom it is none.
func (p *player) one() int {
	ids := p.m.ids()
	if len(ids) == 0 || p.draw(60) == 0 {
		return p.draw(p.m.many + 2)
	}
	return ids[p.draw(len(ids))]
}

// name is one that somebody may hold: mostly one that somebody does, of that tenant, if one is told.
func (p *player) name(tenant string) string {
	if p.draw(8) > 0 {
		for _, l := range p.m.all() {
			if l.Held && (tenant == "" || tenant == l.Tenant) && p.draw(2) == 0 {
				return l.Name
			}
		}
	}
	return pick(p, "web", "ftp", "ssh")
}

// holds: does a connection hold a name?
func (p *player) holds(id int) bool {
	return slices.ContainsFunc(p.m.all(), func(l api.Lease) bool { return l.Held && l.Conn == id })
}

// piece is what comes of a connection: messages that are to be said, one or more, or a piece of them; of visitors and pairs bytes.
func (p *player) piece(id int) string {
	c := p.m.are[id]
	if c == nil {
		return "nobody"
	}
	if c.Kind > api.RoleAgent && p.left[id] == "" {
		return row(p.draw(251), pick(p, 0, 1, 5, 40, 200, 400, 600))
	}
	b := p.left[id]
	p.left[id] = ""
	if b == "" {
		b = p.words(c)
	}
	if p.draw(8) == 0 {
		cut := p.draw(len(b) + 1)
		b, p.left[id] = b[:cut], b[cut:]
	}
	return b
}

// words are what a connection says that is new, or an agent's.
func (p *player) words(c *party) string {
	if p.draw(150) == 0 {
		return pick(p, "x", "\xaa\x00", "\xaa\xff", "\xaa\x01\x63", "\xaa\x02\x04\x04", frames(p.any()), frames(p.any()))
	}
	switch {
	case c.Kind == api.RoleAgent:
		b := ""
		for range 1 + p.draw(3)/2 {
			b += framed(p.ofAgent(c))
		}
		return b
	case c.hello != api.Msg{}:
		secret := "wrong"
		if k, _ := p.m.token(c.hello.A, c.hello.B); p.draw(12) > 0 {
			secret = k.Secret
		}
		return framed(api.Msg{Kind: api.Proof, A: mac.Proof([]byte(secret), c.hello.A, c.hello.B, c.nonce)})
	case len(p.m.leases) > 0 && p.draw(2) == 0:
		return framed(api.Msg{Kind: api.Reach, A: p.name("")}) + pick(p, "", "early", row(7, 300))
	}
	return framed(api.Msg{Kind: api.Hello, A: pick(p, "ann", "ann", "ann", "bob", "bob", "cid", "dan", "eve"), B: pick(p, "k", "k", "k", "l")})
}

// ofAgent is a message of an agent: mostly one that it may say.
func (p *player) ofAgent(c *party) api.Msg {
	name := p.name(c.Tenant)
	epoch := p.m.leases[name].Epoch - int64(p.draw(8)/7)
	most := p.m.tenant(c.Tenant).Names
	switch n := p.draw(40); {
	case n < 20 && p.m.uses(c.Tenant, api.Names) < most, n < 2:
		return api.Msg{Kind: api.Claim, A: pick(p, name, "web", "ftp", "ssh", "ssh", "ssh", "-"), N: int64(pick(p, 0, 1, 5, 30, 99, 99))}
	case n < 5:
		return api.Msg{Kind: api.Renew, A: name, N: max(epoch, 0), M: int64(pick(p, 0, 1, 10, 99))}
	case n < 6:
		return api.Msg{Kind: api.Release, A: name, N: max(epoch, 0)}
	case n < 38 && len(p.m.tickets) > 0 && (!p.holds(c.Conn) || p.draw(30) == 0):
		i := slices.IndexFunc(p.m.tickets, func(k issued) bool { return k.pass.Tenant == c.Tenant })
		if i < 0 && p.draw(9) > 0 {
			break
		}
		return api.Msg{Kind: api.Ticket, B: p.m.tickets[max(i, 0)].text}
	case n == 39 && p.draw(3) == 0:
		return p.any()
	}
	return api.Msg{Kind: api.Beat}
}

// any is a message of any kind.
func (p *player) any() api.Msg {
	switch kind := 1 + p.draw(14); kind {
	case api.Hello, api.Call:
		return api.Msg{Kind: kind, A: "ann", B: "k"}
	case api.Nonce, api.Proof, api.Reach:
		return api.Msg{Kind: kind, A: pick(p, "", "web", strings.Repeat("a", 64))}
	case api.Refuse:
		return api.Msg{Kind: kind, N: 3}
	case api.Granted, api.Renew:
		return api.Msg{Kind: kind, A: "web", N: 1, M: 2}
	case api.Claim, api.Release, api.Gone:
		return api.Msg{Kind: kind, A: "web", N: 1}
	case api.Ticket:
		return api.Msg{Kind: kind, B: pick(p, "", "spent")}
	default:
		return api.Msg{Kind: kind}
	}
}

// P19.1 to P19.6: all of it, by scripts that are drawn, next to what the document says.
func TestScripts(t *testing.T) {
	seen := map[string]int{}
	for seed := range uint32(80) {
		s := newBench(t, pickOf(seed, brisk, calm)())
		p := newPlayer(s.m, seed*7919+1)
		w := newWatch(s)
		for range 600 {
			w.see(p.event())
		}
		for what, many := range s.m.seen {
			seen[what] += many
		}
	}
	// what a script never reaches is not tested by it
	for _, what := range []string{"agent", "granted", "visitor", "paired", "moved", "held up", "held up to the last", "end", "finished", "released", "left", "emptied", "lapsed", "revoked", "ended", "late 1", "late 2", "late 3", "late 4"} {
		if seen[what] == 0 {
			t.Errorf("no script had this: %s", what)
		}
	}
	for _, e := range []api.Errno{api.ErrArg, api.ErrNone, api.ErrThere, api.ErrFrame, api.ErrProof, api.ErrNet, api.ErrQuota, api.ErrHeld, api.ErrOld, api.ErrSpent} {
		if seen["refuse "+strconv.Itoa(int(e))] == 0 {
			t.Errorf("no script had one refused for %d", e)
		}
	}
}

// watch looks, behind each event, whether the promises hold, by what the broker itself tells.
type watch struct {
	s     *bench
	since map[int]int64 // since when one waits
	ever  map[int]int   // with whom one was paired
}

func newWatch(s *bench) *watch {
	return &watch{s, map[int]int64{}, map[int]int{}}
}

func (w *watch) see(e api.Ev) {
	w.s.t.Helper()
	roles := w.s.b.Roles()
	held := w.s.b.Leases()
	o := w.s.step(e)
	w.pairs(roles, held)
	w.counts()
	for i, one := range o.Sent {
		if i > 0 && o.Sent[i-1].Conn >= one.Conn || one.B == "" && !one.End && !one.Closed {
			w.s.t.Fatalf("sent were %+v", o.Sent)
		}
		if one.Closed != (w.s.role(one.Conn).Kind == 0) {
			w.s.t.Fatalf("%+v was sent to %+v", one, w.s.role(one.Conn))
		}
	}
}

// pairs: who is paired now, and was not, was a visitor of a name, and an agent of the tenant that held it, in that epoch (P19.2).
func (w *watch) pairs(roles []api.Role, held []api.Lease) {
	t := w.s.t
	t.Helper()
	was := func(id int) api.Role {
		i := slices.IndexFunc(roles, func(r api.Role) bool { return r.Conn == id })
		if i < 0 {
			return api.Role{}
		}
		return roles[i]
	}
	many := 0
	for _, p := range w.s.b.Pairs() {
		v, c := w.s.role(p.Visitor), w.s.role(p.Caller)
		if v.Kind != api.RolePaired || c.Kind != api.RolePaired || v.Tenant != c.Tenant || v.Name != c.Name || v.Epoch != c.Epoch {
			t.Fatalf("a pair are %+v and %+v", v, c)
		}
		many += 2
		if _, is := w.ever[p.Visitor]; is {
			if w.ever[p.Visitor] != p.Caller || w.ever[p.Caller] != p.Visitor {
				t.Fatalf("%+v, and one of both was paired with another one", p)
			}
			continue
		}
		if _, is := w.ever[p.Caller]; is {
			t.Fatalf("%+v, and the caller was in another pair", p)
		}
		w.ever[p.Visitor], w.ever[p.Caller] = p.Caller, p.Visitor
		ahead := was(p.Visitor)
		if ahead.Kind != api.RoleVisitor || ahead.Tenant != v.Tenant || ahead.Name != v.Name || ahead.Epoch != v.Epoch {
			t.Fatalf("the visitor %+v was %+v", v, ahead)
		}
		if a := was(p.Caller); a.Kind > api.RoleAgent || a.Kind == api.RoleAgent && a.Tenant != c.Tenant {
			t.Fatalf("the caller %+v was %+v", c, a)
		}
		if !slices.ContainsFunc(held, func(l api.Lease) bool {
			return l.Held && l.Name == v.Name && l.Tenant == v.Tenant && l.Epoch == v.Epoch
		}) {
			t.Fatalf("%+v, and leases were %+v", v, held)
		}
	}
	for _, r := range w.s.b.Roles() {
		if r.Kind == api.RolePaired {
			many--
		}
	}
	if many != 0 {
		t.Fatalf("%+v are paired, of %+v", w.s.b.Roles(), w.s.b.Pairs())
	}
}

// counts: what tenants have is what roles and leases tell; who waits does so for a name that is held, in that epoch, and not for too long (P19.5).
func (w *watch) counts() {
	t, b := w.s.t, w.s.b
	t.Helper()
	names, visitors := map[string]int{}, map[string]int{}
	held := map[string]api.Lease{}
	for _, l := range b.Leases() {
		if l.Held && l.Until > b.Now() {
			held[l.Name] = l
			names[l.Tenant]++
			if r := w.s.role(l.Conn); r.Kind != api.RoleAgent || r.Tenant != l.Tenant {
				t.Fatalf("%+v is held by %+v", l, r)
			}
		}
	}
	for _, r := range b.Roles() {
		switch r.Kind {
		case api.RoleVisitor:
			visitors[r.Tenant]++
			if l := held[r.Name]; l.Tenant != r.Tenant || l.Epoch != r.Epoch {
				t.Fatalf("%+v waits, and the name is held so: %+v", r, l)
			}
			if !slices.Contains(b.Waiting(r.Name), r.Conn) {
				t.Fatalf("%+v does not wait", r)
			}
			since, is := w.since[r.Conn]
			if !is {
				w.since[r.Conn], since = b.Now(), b.Now()
			}
			if b.Now()-since >= w.s.m.c.Wait {
				t.Fatalf("%+v waits since %d, and it is %d", r, since, b.Now())
			}
		case api.RolePaired:
			if _, is := w.ever[r.Conn]; !is {
				t.Fatalf("%+v was never paired", r)
			}
		}
	}
	for _, p := range b.Pairs() {
		visitors[w.s.role(p.Visitor).Tenant]++
	}
	for _, k := range w.s.m.c.Tenants {
		w.s.has(k.Name, names[k.Name], visitors[k.Name])
		if names[k.Name] > k.Names || visitors[k.Name] > k.Visitors {
			t.Fatalf("%s has %d names and %d visitors", k.Name, names[k.Name], visitors[k.Name])
		}
	}
}

// P19.6: a script in which events have errors has, but for these, what it has without them.
func TestWhatHasAnErrorIsNoMatter(t *testing.T) {
	errors := map[api.Errno]int{}
	for seed := range uint32(20) {
		s := newBench(t, brisk())
		other := broker.New(brisk())
		p := newPlayer(s.m, seed*104729+5)
		for range 400 {
			for _, e := range []api.Ev{p.event(), p.junk(), p.junk()} {
				o := s.step(e)
				if o.Err != api.OK {
					errors[o.Err]++
				} else if got := other.Step(e); !same(got, o) {
					t.Fatalf("seed %d: of %+v came %+v, and with errors ahead %+v", seed, e, got, o)
				}
			}
		}
		if !slices.Equal(s.b.Roles(), other.Roles()) || !slices.Equal(s.b.Leases(), other.Leases()) || !slices.Equal(s.b.Pairs(), other.Pairs()) || s.b.Now() != other.Now() {
			t.Fatalf("seed %d: with errors ahead the broker is another one", seed)
		}
	}
	if errors[api.ErrArg] == 0 || errors[api.ErrNone] == 0 {
		t.Errorf("errors were %v", errors)
	}
}
