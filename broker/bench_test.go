package broker_test

import (
	"math"
	"slices"
	"testing"

	"subway/api"
	"subway/broker"
	"subway/frame"
	"subway/mac"
	"subway/wire"
)

// drawn is what most events draw; nonce is what comes of it.
const (
	drawn = "0123456789abcdefXYZ"
	nonce = "30313233343536373839616263646566"
)

// plenty is a credit that is never used up.
const plenty = 1 << 20

// bench is a broker, and next to it what the document says of one: each event is done to both.
type bench struct {
	t *testing.T
	b *broker.Broker
	m *model
}

// config is one of four tenants: ann may have most, bob has nets, cid and dan may not have this or that.
func config() api.Config {
	token := func(name string, secret string, until int64) api.Token {
		return api.Token{Name: name, Secret: secret, Until: until}
	}
	return api.Config{Wait: 20, Grace: 5, Idle: 30, Lease: 50, Tenants: []api.Tenant{
		{Name: "ann", Names: 2, Visitors: 3, Tokens: []api.Token{token("k", "s", 1<<40), token("l", "t", 100)}},
		{Name: "bob", Names: 1, Visitors: 1, Nets: []api.Net{{Addr: 10 << 24, Bits: 8}, {Addr: 9<<24 + 7, Bits: 32}}, Tokens: []api.Token{token("k", "s", 1<<40)}},
		{Name: "cid", Names: 8, Visitors: 0, Tokens: []api.Token{token("k", "u", 1<<40)}},
		{Name: "dan", Names: 0, Visitors: 8, Tokens: []api.Token{token("k", "v", 1<<40)}},
	}}
}

func newBench(t *testing.T, c api.Config) *bench {
	t.Helper()
	b := broker.New(c)
	if b == nil {
		t.Fatal("there is no broker")
	}
	s := &bench{t, b, newModel(c)}
	s.like()
	return s
}

// step does an event, and holds what comes of it, and all that may be asked then, against what should.
func (s *bench) step(e api.Ev) api.Out {
	s.t.Helper()
	got, want := s.b.Step(e), s.m.step(e)
	if !same(got, want) {
		s.t.Fatalf("of %+v came\n%+v, not\n%+v", e, got, want)
	}
	s.like()
	return got
}

func same(a api.Out, b api.Out) bool {
	return a.Err == b.Err && a.Conn == b.Conn && a.Took == b.Took && slices.Equal(a.Sent, b.Sent)
}

// like holds all that the broker tells against what it should, twice: to ask changes nothing, and what comes out is new (P3).
func (s *bench) like() {
	s.t.Helper()
	for range 2 {
		if got := s.b.Now(); got != s.m.now {
			s.t.Fatalf("it is %d, not %d", got, s.m.now)
		}
		hold(s.t, "roles", s.b.Roles(), s.m.roles(), api.Role{Conn: -7, Kind: 9, Tenant: "?"})
		hold(s.t, "pairs", s.b.Pairs(), s.m.pairs(), api.Pair{Visitor: -7, Caller: -7})
		hold(s.t, "leases", s.b.Leases(), s.m.all(), api.Lease{Name: "?", Conn: -7})
		for _, tenant := range []string{"ann", "bob", "cid", "dan", "eve", ""} {
			for _, what := range []int{api.Names, api.Visitors, 0, 3, -1, math.MinInt, math.MaxInt} {
				if got, want := s.b.Used(tenant, what), s.m.uses(tenant, what); got != want {
					s.t.Fatalf("%s has %d of %d, not %d", tenant, got, what, want)
				}
			}
		}
		for _, name := range []string{"web", "ftp", "ssh", "nobody", "", "-", "web "} {
			hold(s.t, "who waits for "+name, s.b.Waiting(name), s.m.waiting(name), -7)
		}
	}
}

// hold holds a list against what it should be, and writes over it then, its spare room too.
func hold[T comparable](t *testing.T, what string, got []T, want []T, over T) {
	t.Helper()
	if !slices.Equal(got, want) {
		t.Fatalf("%s: %v, not %v", what, got, want)
	}
	got = got[:cap(got)]
	for i := range got {
		got[i] = over
	}
}

// framed is a message's frame.
func framed(m api.Msg) string {
	return string(frame.Put(wire.Put(m)))
}

// frames are those of messages, one behind the other.
func frames(all ...api.Msg) string {
	out := ""
	for _, m := range all {
		out += framed(m)
	}
	return out
}

func refused(e api.Errno) api.Msg {
	return api.Msg{Kind: api.Refuse, N: int64(e)}
}

// fails does an event that has an error.
func (s *bench) fails(e api.Ev, want api.Errno) {
	s.t.Helper()
	if o := s.step(e); o.Err != want || o.Conn != 0 || o.Took != 0 || len(o.Sent) != 0 {
		s.t.Fatalf("of %+v: %+v, not the error %d alone", e, o, want)
	}
}

// sends holds what an event sent against what it should have sent.
func (s *bench) sends(o api.Out, want ...api.Sent) {
	s.t.Helper()
	if o.Err != api.OK || !slices.Equal(o.Sent, want) {
		s.t.Fatalf("%+v, not %+v", o, want)
	}
}

// open is a connection that has no credit, of an address.
func (s *bench) open(addr uint32) int {
	s.t.Helper()
	o := s.step(api.Ev{Kind: api.EvConnect, Addr: addr})
	if o.Err != api.OK || o.Conn < 1 {
		s.t.Fatalf("connect: %+v", o)
	}
	return o.Conn
}

// connect is one that has credit.
func (s *bench) connect() int {
	s.t.Helper()
	return s.from(0)
}

func (s *bench) from(addr uint32) int {
	s.t.Helper()
	id := s.open(addr)
	s.budget(id, plenty)
	return id
}

func (s *bench) bytes(id int, b string) api.Out {
	s.t.Helper()
	return s.step(api.Ev{Kind: api.EvBytes, Conn: id, B: b, Draw: drawn})
}

func (s *bench) say(id int, all ...api.Msg) api.Out {
	s.t.Helper()
	return s.bytes(id, frames(all...))
}

func (s *bench) budget(id int, n int64) api.Out {
	s.t.Helper()
	return s.step(api.Ev{Kind: api.EvBudget, Conn: id, N: n})
}

func (s *bench) half(id int) api.Out {
	s.t.Helper()
	return s.step(api.Ev{Kind: api.EvHalf, Conn: id})
}

func (s *bench) reset(id int) api.Out {
	s.t.Helper()
	return s.step(api.Ev{Kind: api.EvReset, Conn: id})
}

func (s *bench) tick(n int64) api.Out {
	s.t.Helper()
	return s.step(api.Ev{Kind: api.EvTick, N: n})
}

// secret is that of a tenant's token.
func (s *bench) secret(tenant string, token string) []byte {
	k, _ := s.m.token(tenant, token)
	return []byte(k.Secret)
}

// proof is what a tenant's token k proves of the nonce.
func (s *bench) proof(tenant string, token string) api.Msg {
	return api.Msg{Kind: api.Proof, A: mac.Proof(s.secret(tenant, token), tenant, token, nonce)}
}

// agent is one of a tenant, by its token k.
func (s *bench) agent(tenant string) int {
	s.t.Helper()
	return s.agentBy(tenant, "k")
}

func (s *bench) agentBy(tenant string, token string) int {
	s.t.Helper()
	id := s.connect()
	s.sends(s.say(id, api.Msg{Kind: api.Hello, A: tenant, B: token}), api.Sent{Conn: id, B: framed(api.Msg{Kind: api.Nonce, A: nonce})})
	s.sends(s.say(id, s.proof(tenant, token)), api.Sent{Conn: id, B: framed(api.Msg{Kind: api.Welcome})})
	s.is(id, api.Role{Conn: id, Kind: api.RoleAgent, Tenant: tenant})
	return id
}

// holder is an agent of a tenant that holds a name.
func (s *bench) holder(tenant string, name string) int {
	s.t.Helper()
	id := s.agent(tenant)
	s.claims(id, name)
	return id
}

// claims has an agent claim a name, for as long as may be: in which epoch.
func (s *bench) claims(id int, name string) int64 {
	s.t.Helper()
	o := s.say(id, api.Msg{Kind: api.Claim, A: name, N: 1000})
	said := s.told(o, id)
	if len(said) != 1 || said[0].Kind != api.Granted || said[0].A != name {
		s.t.Fatalf("to a claim of %s was said %v", name, said)
	}
	return said[0].N
}

// reaches has one that is new and has credit wait for a name: its number, and the ticket that its holder was told.
func (s *bench) reaches(holder int, name string) (int, string) {
	s.t.Helper()
	id := s.connect()
	return id, s.reachesBy(holder, id, name)
}

func (s *bench) reachesBy(holder int, id int, name string) string {
	s.t.Helper()
	o := s.say(id, api.Msg{Kind: api.Reach, A: name})
	said := s.told(o, holder)
	if len(said) != 1 || said[0].Kind != api.Call || said[0].A != name || len(said[0].B) != 32 || len(o.Sent) != 1 {
		s.t.Fatalf("to a reach for %s was said %+v", name, o.Sent)
	}
	return said[0].B
}

// pair is a visitor and who called back for it, with credit: they, and who holds the name.
func (s *bench) pair(tenant string, name string) (int, int, int) {
	s.t.Helper()
	h := s.holder(tenant, name)
	v, c := s.another(h, tenant, name)
	return v, c, h
}

// another is a pair more of a name that is held.
func (s *bench) another(holder int, tenant string, name string) (int, int) {
	s.t.Helper()
	v, ticket := s.reaches(holder, name)
	c := s.agent(tenant)
	s.sends(s.say(c, api.Msg{Kind: api.Ticket, B: ticket}))
	s.arePaired(v, c)
	return v, c
}

// bare is a pair, both without credit, of a holder that has some.
func (s *bench) bare(tenant string, name string) (int, int) {
	s.t.Helper()
	return s.bareOf(s.holder(tenant, name), tenant, name)
}

func (s *bench) bareOf(holder int, tenant string, name string) (int, int) {
	s.t.Helper()
	v := s.open(0)
	ticket := s.reachesBy(holder, v, name)
	c := s.open(0)
	welcome := framed(api.Msg{Kind: api.Nonce, A: nonce}) + framed(api.Msg{Kind: api.Welcome})
	s.budget(c, int64(len(welcome)))
	s.sends(s.say(c, api.Msg{Kind: api.Hello, A: tenant, B: "k"}, s.proof(tenant, "k")), api.Sent{Conn: c, B: welcome})
	s.sends(s.say(c, api.Msg{Kind: api.Ticket, B: ticket}))
	s.arePaired(v, c)
	return v, c
}

func (s *bench) arePaired(v int, c int) {
	s.t.Helper()
	if !slices.Contains(s.b.Pairs(), api.Pair{Visitor: v, Caller: c}) {
		s.t.Fatalf("%d and %d are no pair: %v", v, c, s.b.Pairs())
	}
}

// is holds that a connection is that.
func (s *bench) is(id int, want api.Role) {
	s.t.Helper()
	if got := s.role(id); got != want {
		s.t.Fatalf("%d is %+v, not %+v", id, got, want)
	}
}

// role is what a connection is; a zero one, if it is none.
func (s *bench) role(id int) api.Role {
	for _, r := range s.b.Roles() {
		if r.Conn == id {
			return r
		}
	}
	return api.Role{}
}

// lives holds that all of these are connections, dies that none is.
func (s *bench) lives(ids ...int) {
	s.t.Helper()
	for _, id := range ids {
		if s.role(id).Kind == 0 {
			s.t.Fatalf("%d is closed", id)
		}
	}
}

func (s *bench) dies(ids ...int) {
	s.t.Helper()
	for _, id := range ids {
		if r := s.role(id); r.Kind != 0 {
			s.t.Fatalf("%d is there: %+v", id, r)
		}
	}
}

// told are the messages that an event sent to a connection.
func (s *bench) told(o api.Out, id int) []api.Msg {
	s.t.Helper()
	var all []api.Msg
	for _, one := range o.Sent {
		if one.Conn != id {
			continue
		}
		cut, many, e := frame.Cut([]byte(one.B))
		if e != api.OK || many != len(one.B) {
			s.t.Fatalf("%q are no messages", one.B)
		}
		for _, b := range cut {
			m, _ := wire.Get(b)
			all = append(all, m)
		}
	}
	return all
}

// isRefused holds that an event refused a connection for an error, alone: it was told that, and is closed.
func (s *bench) isRefused(o api.Out, id int, e api.Errno) {
	s.t.Helper()
	s.sends(o, api.Sent{Conn: id, B: framed(refused(e)), Closed: true})
	s.dies(id)
}

// has holds how many names, and visitors, a tenant has.
func (s *bench) has(tenant string, names int, visitors int) {
	s.t.Helper()
	if n, v := s.b.Used(tenant, api.Names), s.b.Used(tenant, api.Visitors); n != names || v != visitors {
		s.t.Fatalf("%s has %d names and %d visitors, not %d and %d", tenant, n, v, names, visitors)
	}
}

// waits holds who waits for a name.
func (s *bench) waits(name string, want ...int) {
	s.t.Helper()
	if got := s.b.Waiting(name); !slices.Equal(got, want) {
		s.t.Fatalf("for %s %v wait, not %v", name, got, want)
	}
}

// row is so many bytes, of which the first is that one: no two of 251 beside each other are alike.
func row(from int, many int) string {
	b := make([]byte, many)
	for i := range b {
		b[i] = byte((from + i) % 251)
	}
	return string(b)
}

// drawer draws numbers below one.
func drawer(seed uint32) func(int) int {
	return func(below int) int {
		seed = seed*1664525 + 1013904223
		return int(seed>>8) % below
	}
}
