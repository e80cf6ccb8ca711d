package broker_test

import (
	"math"
	"strings"
	"testing"

	"subway/api"
	"subway/broker"
)

// P19.1, T1.

func TestNew(t *testing.T) {
	wrong := map[string]func(*api.Config){
		"no wait":             func(c *api.Config) { c.Wait = 0 },
		"no grace":            func(c *api.Config) { c.Grace = 0 },
		"no idle time":        func(c *api.Config) { c.Idle = 0 },
		"no lease":            func(c *api.Config) { c.Lease = 0 },
		"a wait below 0":      func(c *api.Config) { c.Wait = -1 },
		"too long a wait":     func(c *api.Config) { c.Wait = maxTime + 1 },
		"too long a grace":    func(c *api.Config) { c.Grace = maxTime + 1 },
		"too long idle":       func(c *api.Config) { c.Idle = maxTime + 1 },
		"too long a lease":    func(c *api.Config) { c.Lease = math.MaxInt64 },
		"tenants that fall":   func(c *api.Config) { c.Tenants[0], c.Tenants[1] = c.Tenants[1], c.Tenants[0] },
		"one tenant twice":    func(c *api.Config) { c.Tenants[1].Name = "ann" },
		"a tenant of no name": func(c *api.Config) { c.Tenants[0].Name = "" },
		"too many tenants":    func(c *api.Config) { c.Tenants = tenants(9) },
		"too many names":      func(c *api.Config) { c.Tenants[0].Names = 9 },
		"visitors below 0":    func(c *api.Config) { c.Tenants[0].Visitors = -1 },
		"a net that is none":  func(c *api.Config) { c.Tenants[1].Nets[0].Addr++ },
		"tokens that fall":    func(c *api.Config) { c.Tenants[0].Tokens[0].Name = "z" },
		"no secret":           func(c *api.Config) { c.Tenants[0].Tokens[0].Secret = "" },
		"a time below 0":      func(c *api.Config) { c.Tenants[0].Tokens[0].Until = -1 },
	}
	for what, spoil := range wrong {
		c := config()
		spoil(&c)
		if broker.New(c) != nil {
			t.Errorf("%s: there is a broker", what)
		}
	}
	if broker.New(api.Config{}) != nil {
		t.Error("of nothing there is a broker")
	}
	for what, c := range map[string]api.Config{
		"nobody":         {Wait: 1, Grace: 1, Idle: 1, Lease: 1},
		"the most":       {Wait: maxTime, Grace: maxTime, Idle: maxTime, Lease: maxTime, Tenants: tenants(8)},
		"that of a test": config(),
	} {
		b := broker.New(c)
		if b == nil {
			t.Errorf("%s: there is no broker", what)
			continue
		}
		if len(b.Roles()) != 0 || len(b.Pairs()) != 0 || len(b.Leases()) != 0 || b.Now() != 0 || b.Used("ann", api.Names) != 0 || len(b.Waiting("web")) != 0 {
			t.Errorf("%s: a new one has something", what)
		}
	}
}

// tenants are so many.
func tenants(many int) []api.Tenant {
	var all []api.Tenant
	for i := range many {
		all = append(all, api.Tenant{Name: string(rune('a' + i))})
	}
	return all
}

// What may be asked tells all of it, of a broker that has all kinds of connections.
func TestAsked(t *testing.T) {
	s := newBench(t, config())
	fresh := s.connect()
	v, c, h := s.pair("ann", "web") // h, v, c are 2, 3, 4
	s.claims(h, "ftp")
	s.tick(7)
	a := s.agent("bob")
	w, _ := s.reaches(h, "web")
	x, _ := s.reaches(h, "ftp")
	s.is(fresh, api.Role{Conn: 1, Kind: api.RoleNew})
	s.is(h, api.Role{Conn: 2, Kind: api.RoleAgent, Tenant: "ann"})
	s.is(v, api.Role{Conn: 3, Kind: api.RolePaired, Tenant: "ann", Name: "web", Epoch: 1})
	s.is(c, api.Role{Conn: 4, Kind: api.RolePaired, Tenant: "ann", Name: "web", Epoch: 1})
	s.is(a, api.Role{Conn: 5, Kind: api.RoleAgent, Tenant: "bob"})
	s.is(w, api.Role{Conn: 6, Kind: api.RoleVisitor, Tenant: "ann", Name: "web", Epoch: 1})
	s.is(x, api.Role{Conn: 7, Kind: api.RoleVisitor, Tenant: "ann", Name: "ftp", Epoch: 2})
	hold(t, "pairs", s.b.Pairs(), []api.Pair{{Visitor: 3, Caller: 4}}, api.Pair{})
	hold(t, "leases", s.b.Leases(), []api.Lease{
		{Name: "ftp", Tenant: "ann", Conn: 2, Epoch: 2, Until: 50, Held: true},
		{Name: "web", Tenant: "ann", Conn: 2, Epoch: 1, Until: 50, Held: true},
	}, api.Lease{})
	if s.b.Now() != 7 {
		t.Errorf("it is %d", s.b.Now())
	}
	s.has("ann", 2, 3)
	s.has("bob", 0, 0)
	s.has("nobody", 0, 0)
	s.waits("web", w)
	s.waits("ftp", x)
	s.waits("ssh")
	for i, r := range s.b.Roles() {
		if r.Conn != i+1 {
			t.Errorf("the roles do not rise: %v", s.b.Roles())
		}
	}
}

// P19.1, T2: events.

func TestConnect(t *testing.T) {
	s := newBench(t, config())
	for want := 1; want <= maxConns; want++ {
		o := s.step(api.Ev{Kind: api.EvConnect, Addr: uint32(want), Conn: 99, B: "x", N: -1, Name: "web", Token: "k", Draw: drawn})
		s.sends(o)
		if o.Conn != want || o.Took != 0 {
			t.Fatalf("the %dth is %+v", want, o)
		}
		s.is(want, api.Role{Conn: want, Kind: api.RoleNew})
	}
	for range 3 {
		s.fails(api.Ev{Kind: api.EvConnect}, api.ErrTooMany)
	}
	s.reset(7)
	if id := s.open(0); id != 65 {
		t.Errorf("behind 64, of which one is gone, comes %d", id)
	}
	s.fails(api.Ev{Kind: api.EvConnect}, api.ErrTooMany)
	s.dies(7)
}

// Who is new and says nothing is closed behind Wait, as is each one by its own time.
func TestNewOnesWait(t *testing.T) {
	s := newBench(t, config())
	a := s.connect()
	s.tick(5)
	b := s.connect()
	s.sends(s.tick(14))
	s.bytes(a, "\xaa\x05ab") // a piece of a frame is no message
	s.sends(s.tick(1), api.Sent{Conn: a, Closed: true})
	s.sends(s.tick(4))
	s.sends(s.tick(1), api.Sent{Conn: b, Closed: true})
	if len(s.b.Roles()) != 0 {
		t.Errorf("there are %v", s.b.Roles())
	}
}

// However many come and go ahead of it, one has its time.
func TestManyComeAndGo(t *testing.T) {
	b := broker.New(config())
	for want := 1; want <= 3000; want++ {
		o := b.Step(api.Ev{Kind: api.EvConnect})
		if o.Err != api.OK || o.Conn != want {
			t.Fatalf("the %dth is %+v", want, o)
		}
		if want < 3000 {
			b.Step(api.Ev{Kind: api.EvReset, Conn: want})
		}
	}
	if o := b.Step(api.Ev{Kind: api.EvTick, N: 19}); len(o.Sent) != 0 {
		t.Errorf("ahead of its time: %+v", o)
	}
	if o := b.Step(api.Ev{Kind: api.EvTick, N: 1}); len(o.Sent) != 1 || o.Sent[0] != (api.Sent{Conn: 3000, Closed: true}) {
		t.Errorf("at its time: %+v", o)
	}
}

func TestBytesThatAreTaken(t *testing.T) {
	s := newBench(t, config())
	h := s.holder("ann", "web")
	v := s.connect()
	reach := framed(api.Msg{Kind: api.Reach, A: "web"})
	if o := s.bytes(v, reach+row(0, 600)); o.Took != 512 || o.Conn != 0 {
		t.Errorf("of 600 and more %d were taken", o.Took)
	}
	if o := s.bytes(v, row(0, 600)); o.Took != len(reach) { // so many were heard
		t.Errorf("%d more were taken", o.Took)
	}
	if o := s.bytes(v, "x"); o.Err != api.OK || o.Took != 0 {
		t.Errorf("one more: %+v", o)
	}
	if o := s.bytes(h, ""); o.Err != api.OK || o.Took != 0 {
		t.Errorf("nothing: %+v", o)
	}
	x := s.connect()
	s.half(v)
	s.reset(x)
	if o := s.bytes(v, "x"); o.Err != api.OK || o.Took != 0 {
		t.Errorf("behind the end: %+v", o)
	}
	s.fails(api.Ev{Kind: api.EvBytes, Conn: x, B: "x"}, api.ErrNone)
	// what closes the connection was taken, too
	if o := s.bytes(h, "zz"); o.Took != 2 {
		t.Errorf("what is no frame: %+v", o)
	}
}

func TestBudget(t *testing.T) {
	s := newBench(t, config())
	id := s.open(0)
	s.fails(api.Ev{Kind: api.EvBudget, Conn: id + 1, N: -1}, api.ErrNone)
	for _, n := range []int64{-1, maxBudget + 1, math.MinInt64, math.MaxInt64, 1 << 32, 1 << 40, -1 << 40} {
		s.fails(api.Ev{Kind: api.EvBudget, Conn: id, N: n}, api.ErrArg)
	}
	s.sends(s.say(id, api.Msg{Kind: api.Hello, A: "ann", B: "k"}))
	said := framed(api.Msg{Kind: api.Nonce, A: nonce})
	s.sends(s.budget(id, 0))
	s.sends(s.budget(id, 1), api.Sent{Conn: id, B: said[:1]})
	s.sends(s.budget(id, 9), api.Sent{Conn: id, B: said[1:10]})
	s.sends(s.budget(id, maxBudget), api.Sent{Conn: id, B: said[10:]})
	s.sends(s.budget(id, maxBudget)) // there is no more than that much credit, and no error of it
	s.sends(s.say(id, s.proof("ann", "k")), api.Sent{Conn: id, B: framed(api.Msg{Kind: api.Welcome})})
}

func TestHalf(t *testing.T) {
	s := newBench(t, config())
	s.fails(api.Ev{Kind: api.EvHalf, Conn: 1}, api.ErrNone)
	fresh := s.connect()
	s.bytes(fresh, "\xaa\x05ab") // what is cut is not refused
	s.sends(s.half(fresh), api.Sent{Conn: fresh, Closed: true})
	hello := s.connect()
	s.say(hello, api.Msg{Kind: api.Hello, A: "ann", B: "k"})
	s.sends(s.half(hello), api.Sent{Conn: hello, Closed: true})
	h := s.holder("ann", "web")
	v, _ := s.reaches(h, "web")
	s.sends(s.half(v)) // it may be paired yet
	s.lives(v)
	s.fails(api.Ev{Kind: api.EvHalf, Conn: v}, api.ErrArg)
	s.fails(api.Ev{Kind: api.EvHalf, Conn: fresh}, api.ErrNone)
	s.sends(s.half(h), api.Sent{Conn: h, Closed: true}, api.Sent{Conn: v, B: framed(refused(api.ErrNone)), Closed: true})
	s.has("ann", 0, 0)
}

func TestReset(t *testing.T) {
	s := newBench(t, config())
	s.fails(api.Ev{Kind: api.EvReset, Conn: 1}, api.ErrNone)
	id := s.open(0)
	s.say(id, api.Msg{Kind: api.Hello, A: "ann", B: "k"})
	s.sends(s.reset(id), api.Sent{Conn: id, Closed: true}) // without credit nothing goes
	s.fails(api.Ev{Kind: api.EvReset, Conn: id}, api.ErrNone)
	s.fails(api.Ev{Kind: api.EvBudget, Conn: id, N: 1}, api.ErrNone)
	s.sends(s.tick(100)) // its alarm is gone with it
}

// What waits of one that is closed goes, as far as its credit lets it.
func TestClosedWithCredit(t *testing.T) {
	s := newBench(t, config())
	why := framed(refused(api.ErrFrame))
	for credit := range len(why) + 3 {
		id := s.open(0)
		s.budget(id, int64(credit))
		s.sends(s.bytes(id, "zz"), api.Sent{Conn: id, B: why[:min(credit, len(why))], Closed: true})
	}
}

func TestTick(t *testing.T) {
	s := newBench(t, config())
	for _, n := range []int64{-1, math.MinInt64, maxNum + 1, math.MaxInt64} {
		s.fails(api.Ev{Kind: api.EvTick, N: n}, api.ErrArg)
	}
	s.sends(s.tick(0))
	s.sends(s.tick(9))
	s.fails(api.Ev{Kind: api.EvTick, N: maxNum - 8}, api.ErrArg)
	if s.b.Now() != 9 {
		t.Errorf("it is %d", s.b.Now())
	}
	s.sends(s.tick(maxNum - 9))
	s.fails(api.Ev{Kind: api.EvTick, N: 1}, api.ErrArg)
	s.sends(s.tick(0))
	if s.b.Now() != maxNum {
		t.Errorf("it is %d", s.b.Now())
	}
}

// At the end of all time a lease may end behind it: then there is no message that tells it.
func TestAtTheEndOfTime(t *testing.T) {
	c := config()
	c.Tenants[0].Tokens[0].Until = maxNum
	s := newBench(t, c)
	s.tick(maxNum - 10)
	a := s.agent("ann")
	s.sends(s.say(a, api.Msg{Kind: api.Claim, A: "web", N: 10}), api.Sent{Conn: a, B: framed(api.Msg{Kind: api.Granted, A: "web", N: 1, M: maxNum})})
	s.sends(s.say(a, api.Msg{Kind: api.Claim, A: "ftp", N: 11}))
	s.has("ann", 2, 0)
	v, _ := s.reaches(a, "ftp")
	s.tick(9)
	s.lives(a, v)
	s.sends(s.tick(1), api.Sent{Conn: a, B: framed(api.Msg{Kind: api.Gone, A: "web", N: 1})})
	s.lives(a, v)
}

// When the time of a name comes it is kept for the tenant alone, who holds it is told, and who waits for it is refused.
func TestLapse(t *testing.T) {
	s := newBench(t, config())
	a, b := s.agent("ann"), s.holder("bob", "ssh")
	s.say(a, api.Msg{Kind: api.Claim, A: "web", N: 10}, api.Msg{Kind: api.Claim, A: "ftp", N: 10})
	v, _ := s.reaches(a, "web")
	w, _ := s.reaches(a, "ftp")
	x, _ := s.reaches(a, "web")
	s.tick(9)
	s.lives(v, w, x)
	s.has("ann", 2, 3)
	why := framed(refused(api.ErrNone))
	s.sends(s.tick(1),
		api.Sent{Conn: a, B: framed(api.Msg{Kind: api.Gone, A: "ftp", N: 3}) + framed(api.Msg{Kind: api.Gone, A: "web", N: 2})},
		api.Sent{Conn: v, B: why, Closed: true},
		api.Sent{Conn: w, B: why, Closed: true},
		api.Sent{Conn: x, B: why, Closed: true})
	s.has("ann", 0, 0)
	s.has("bob", 1, 0)
	hold(t, "leases", s.b.Leases(), []api.Lease{
		{Name: "ftp", Tenant: "ann", Conn: a, Epoch: 3, Until: 15},
		{Name: "ssh", Tenant: "bob", Conn: b, Epoch: 1, Until: 50, Held: true},
		{Name: "web", Tenant: "ann", Conn: a, Epoch: 2, Until: 15},
	}, api.Lease{})
	s.tick(4)
	s.isRefused(s.say(s.connect(), api.Msg{Kind: api.Reach, A: "web"}), 6, api.ErrNone)
	s.tick(1)
	if all := s.b.Leases(); len(all) != 1 {
		t.Errorf("behind the grace there are %v", all)
	}
}

// A name of which the time comes with that of its holder's connection is told to be gone first, and closed then; in order.
func TestLapseAheadOfAlarms(t *testing.T) {
	c := config()
	c.Idle = 10
	s := newBench(t, c)
	a := s.agent("ann")
	s.say(a, api.Msg{Kind: api.Claim, A: "web", N: 10})
	v, _ := s.reaches(a, "web")
	fresh := s.connect()
	s.sends(s.tick(25),
		api.Sent{Conn: a, B: framed(api.Msg{Kind: api.Gone, A: "web", N: 1}), Closed: true},
		api.Sent{Conn: v, B: framed(refused(api.ErrNone)), Closed: true},
		api.Sent{Conn: fresh, Closed: true})
	s.has("ann", 0, 0)
	if all := s.b.Leases(); len(all) != 0 {
		t.Errorf("there are %v", all) // both times are over: its own, and the grace
	}
}

// An agent that says nothing for the idle time is closed, its names are kept for its tenant, and who waits for them is refused.
func TestIdleAgent(t *testing.T) {
	s := newBench(t, config())
	a := s.holder("ann", "web")
	s.tick(14)
	s.sends(s.say(a, api.Msg{Kind: api.Beat})) // at 14: it is closed at 44
	s.tick(15)
	v, _ := s.reaches(a, "web") // what is told to it is nothing that it says
	s.tick(14)
	s.lives(a, v)
	s.sends(s.tick(1), api.Sent{Conn: a, Closed: true}, api.Sent{Conn: v, B: framed(refused(api.ErrNone)), Closed: true})
	s.has("ann", 0, 0)
	hold(t, "leases", s.b.Leases(), []api.Lease{{Name: "web", Tenant: "ann", Conn: a, Epoch: 1, Until: 49}}, api.Lease{})
	s.isRefusedClaim("bob", "web", api.ErrHeld)
	s.tick(4)
	s.isRefusedClaim("bob", "web", api.ErrHeld)
	s.holder("ann", "web")
}

// isRefusedClaim holds that a tenant's claim is told an error, and closes nobody.
func (s *bench) isRefusedClaim(tenant string, name string, e api.Errno) {
	s.t.Helper()
	a := s.agent(tenant)
	used := s.b.Used(tenant, api.Names)
	s.sends(s.say(a, api.Msg{Kind: api.Claim, A: name, N: 10}), api.Sent{Conn: a, B: framed(refused(e))})
	if s.b.Used(tenant, api.Names) != used {
		s.t.Fatalf("a refused claim costs a name")
	}
	s.lives(a)
}

func TestRevoke(t *testing.T) {
	s := newBench(t, config())
	for _, e := range []api.Ev{{}, {Name: "ann"}, {Token: "k"}, {Name: "ann", Token: "z"}, {Name: "eve", Token: "k"}, {Name: "bob", Token: "l"}, {Name: "Ann", Token: "k"}, {Name: strings.Repeat("a", 999), Token: "k"}} {
		e.Kind = api.EvRevoke
		s.fails(e, api.ErrNone)
	}
	v, c, h := s.pair("ann", "web") // that go on
	a, b, l := s.agent("ann"), s.agent("bob"), s.agentBy("ann", "l")
	s.claims(l, "ftp")
	w, _ := s.reaches(h, "web")
	x, _ := s.reaches(l, "ftp")
	hello := s.connect()
	s.say(hello, api.Msg{Kind: api.Hello, A: "ann", B: "k"})
	fresh := s.connect()
	o := s.step(api.Ev{Kind: api.EvRevoke, Name: "ann", Token: "k"})
	s.sends(o, api.Sent{Conn: h, Closed: true}, api.Sent{Conn: a, Closed: true}, api.Sent{Conn: w, B: framed(refused(api.ErrNone)), Closed: true})
	s.lives(v, c, b, l, x, hello, fresh)
	s.has("ann", 1, 2)
	s.fails(api.Ev{Kind: api.EvRevoke, Name: "ann", Token: "k"}, api.ErrNone) // it is already
	s.isRefused(s.say(hello, s.proof("ann", "k")), hello, api.ErrNone)
	s.agent("bob") // of the same token's name, and secret
	s.agentBy("ann", "l")
	s.sends(s.bytes(v, "on"), api.Sent{Conn: c, B: "on"})
	// who holds no name any more has shown its token yet
	s.say(l, api.Msg{Kind: api.Release, A: "ftp", N: 2})
	s.step(api.Ev{Kind: api.EvRevoke, Name: "ann", Token: "l"})
	s.dies(l)
	s.lives(v, c)
	s.has("ann", 0, 1)
}

func TestEvict(t *testing.T) {
	s := newBench(t, config())
	for _, name := range []string{"", "-", "web", strings.Repeat("a", 999)} {
		s.fails(api.Ev{Kind: api.EvEvict, Name: name}, api.ErrNone)
	}
	v, c, h := s.pair("ann", "web")
	s.claims(h, "ftp")
	w, _ := s.reaches(h, "web")
	x, _ := s.reaches(h, "ftp")
	o := s.step(api.Ev{Kind: api.EvEvict, Name: "web"})
	s.sends(o, api.Sent{Conn: h, B: framed(api.Msg{Kind: api.Gone, A: "web", N: 1})}, api.Sent{Conn: w, B: framed(refused(api.ErrNone)), Closed: true})
	s.has("ann", 1, 2)
	s.lives(v, c, x)
	s.fails(api.Ev{Kind: api.EvEvict, Name: "web"}, api.ErrNone)
	if id := s.holder("bob", "web"); s.b.Leases()[1].Conn != id { // it is kept for nobody
		t.Errorf("%v", s.b.Leases())
	}
	s.say(h, api.Msg{Kind: api.Release, A: "ftp", N: 2})
	s.fails(api.Ev{Kind: api.EvEvict, Name: "ftp"}, api.ErrNone) // it is kept, not held
	s.has("ann", 0, 1)
}

func TestOtherKinds(t *testing.T) {
	s := newBench(t, config())
	v, _, _ := s.pair("ann", "web")
	for _, kind := range []int{0, 9, 10, -1, -8, 255, 256, 257, 1 << 32, 1<<32 + 1, math.MaxInt, math.MinInt} {
		s.fails(api.Ev{Kind: kind, Conn: v, B: "x", N: 1, Name: "web", Token: "k", Draw: drawn}, api.ErrArg)
		s.fails(api.Ev{Kind: kind, Conn: 99}, api.ErrArg)
	}
}

// What an event's kind does not ask for is no matter.
func TestOtherFields(t *testing.T) {
	s := newBench(t, config())
	v, c, h := s.pair("ann", "web")
	other := api.Ev{Conn: 99, Addr: 9, B: "x", N: -1, Name: "nobody", Token: "none", Draw: "drawn"}
	with := func(kind int, set func(*api.Ev)) api.Ev {
		e := other
		e.Kind = kind
		set(&e)
		return e
	}
	s.sends(s.step(with(api.EvBytes, func(e *api.Ev) { e.Conn = v })), api.Sent{Conn: c, B: "x"})
	s.sends(s.step(with(api.EvBudget, func(e *api.Ev) { e.Conn, e.N = c, 1 })))
	s.sends(s.step(with(api.EvHalf, func(e *api.Ev) { e.Conn = v })), api.Sent{Conn: c, End: true})
	s.sends(s.step(with(api.EvTick, func(e *api.Ev) { e.N = 1 })))
	s.sends(s.step(with(api.EvEvict, func(e *api.Ev) { e.Name = "web" })), api.Sent{Conn: h, B: framed(api.Msg{Kind: api.Gone, A: "web", N: 1})})
	s.sends(s.step(with(api.EvRevoke, func(e *api.Ev) { e.Name, e.Token = "ann", "k" })), api.Sent{Conn: h, Closed: true})
	s.sends(s.step(with(api.EvReset, func(e *api.Ev) { e.Conn = c })), api.Sent{Conn: v, Closed: true}, api.Sent{Conn: c, Closed: true})
}
