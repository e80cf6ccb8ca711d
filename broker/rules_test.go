package broker_test

import (
	"math"
	"slices"
	"strings"
	"testing"

	"subway/api"
	"subway/broker"
)

// states are brokers that one may come to.
func states() map[string]func(*bench) {
	return map[string]func(*bench){
		"new":          func(*bench) {},
		"one connects": func(s *bench) { s.connect() },
		"a hello": func(s *bench) {
			s.say(s.connect(), api.Msg{Kind: api.Hello, A: "ann", B: "k"})
		},
		"an agent": func(s *bench) { s.agent("ann") },
		"a name":   func(s *bench) { s.holder("ann", "web") },
		"one waits": func(s *bench) {
			s.reaches(s.holder("ann", "web"), "web")
		},
		"one waits that has ended": func(s *bench) {
			v, _ := s.reaches(s.holder("ann", "web"), "web")
			s.half(v)
		},
		"a pair": func(s *bench) { s.pair("ann", "web") },
		"a pair that is held up": func(s *bench) {
			v, c := s.bare("ann", "web")
			for range 6 {
				s.bytes(v, row(0, 512))
				s.bytes(c, row(0, 100))
			}
			s.half(c)
			s.budget(v, 50)
		},
		"a pair that was": func(s *bench) {
			v, c, _ := s.pair("ann", "web")
			s.half(v)
			s.half(c)
		},
		"a name that is kept": func(s *bench) {
			s.say(s.holder("ann", "web"), api.Msg{Kind: api.Release, A: "web", N: 1})
		},
		"a token that is revoked": func(s *bench) {
			s.holder("ann", "web")
			s.step(api.Ev{Kind: api.EvRevoke, Name: "ann", Token: "k"})
		},
		"all connections": func(s *bench) {
			s.pair("ann", "web")
			for range maxConns - 3 {
				s.open(0)
			}
		},
		"late": func(s *bench) {
			s.tick(maxNum - 60)
			s.pair("ann", "web")
		},
	}
}

// goesOn is what comes of a broker behind a state, of events that touch all that it may have.
func goesOn(b *broker.Broker) []api.Out {
	var outs []api.Out
	do := func(e api.Ev) {
		e.Draw = drawn
		outs = append(outs, b.Step(e))
	}
	for _, r := range b.Roles() {
		do(api.Ev{Kind: api.EvBudget, Conn: r.Conn, N: plenty})
		do(api.Ev{Kind: api.EvBytes, Conn: r.Conn, B: framed(api.Msg{Kind: api.Claim, A: "ftp", N: 30})})
	}
	do(api.Ev{Kind: api.EvConnect})
	for _, r := range b.Roles() {
		do(api.Ev{Kind: api.EvBytes, Conn: r.Conn, B: framed(api.Msg{Kind: api.Reach, A: "web"})})
	}
	for range 60 {
		do(api.Ev{Kind: api.EvTick, N: 1})
	}
	do(api.Ev{Kind: api.EvRevoke, Name: "ann", Token: "k"})
	return outs
}

// P19.6: an event that has an error changes nothing, in whatever state.
func TestRefusedEvents(t *testing.T) {
	for name, come := range states() {
		t.Run(name, func(t *testing.T) {
			s, other := newBench(t, config()), newBench(t, config())
			come(s)
			come(other)
			many := s.m.many
			var wrong []api.Ev
			for _, id := range []int{0, -1, many + 1, 64 + many, math.MaxInt, math.MinInt} {
				for kind := api.EvBytes; kind <= api.EvReset; kind++ {
					wrong = append(wrong, api.Ev{Kind: kind, Conn: id, B: framed(api.Msg{Kind: api.Beat}), N: 5, Draw: drawn})
				}
			}
			for _, r := range s.b.Roles() {
				for _, n := range []int64{-1, maxBudget + 1, math.MinInt64, math.MaxInt64} {
					wrong = append(wrong, api.Ev{Kind: api.EvBudget, Conn: r.Conn, N: n})
				}
				if s.m.are[r.Conn].ended {
					wrong = append(wrong, api.Ev{Kind: api.EvHalf, Conn: r.Conn})
				}
				for _, kind := range []int{0, 9, -1, math.MaxInt} {
					wrong = append(wrong, api.Ev{Kind: kind, Conn: r.Conn, B: "x", N: 1, Name: "web", Token: "k"})
				}
			}
			for _, n := range []int64{-1, maxNum - s.m.now + 1, math.MinInt64, math.MaxInt64} {
				wrong = append(wrong, api.Ev{Kind: api.EvTick, N: n})
			}
			wrong = append(wrong,
				api.Ev{Kind: api.EvRevoke, Name: "ann", Token: "z"},
				api.Ev{Kind: api.EvRevoke, Name: "web", Token: "k"},
				api.Ev{Kind: api.EvEvict, Name: "nobody"},
				api.Ev{Kind: api.EvEvict})
			if len(s.m.are) == maxConns {
				wrong = append(wrong, api.Ev{Kind: api.EvConnect, Addr: 9})
			}
			for _, e := range wrong {
				o := s.step(e)
				if o.Err == api.OK || o.Conn != 0 || o.Took != 0 || len(o.Sent) != 0 {
					t.Fatalf("of %+v: %+v", e, o)
				}
			}
			likeOuts(t, goesOn(s.b), goesOn(other.b))
		})
	}
}

func likeOuts(t *testing.T, got []api.Out, want []api.Out) {
	t.Helper()
	if !slices.EqualFunc(got, want, same) {
		t.Fatalf("came\n%+v, not\n%+v", got, want)
	}
}

// P1: every event ends, and none panics, whatever it is.
func TestWildEvents(t *testing.T) {
	numbers := []int64{0, 1, -1, 2, 64, 65, maxBudget, maxNum, math.MaxInt32, math.MinInt32, math.MaxInt64, math.MinInt64}
	texts := []string{"", "ann", "k", "web", "\x00", "\xaa", "\xff\xfe", strings.Repeat("a", 300), frames(kinds()...), strings.Repeat(framed(api.Msg{Kind: api.Beat}), 400), row(0, 5000)}
	for seed := range uint32(30) {
		draw := drawer(seed + 99)
		s := newBench(t, config())
		s.pair("ann", "web")
		s.holder("bob", "ssh")
		number := func() int64 { return numbers[draw(len(numbers))] }
		text := func() string { return texts[draw(len(texts))] }
		for range 200 {
			e := api.Ev{Kind: draw(12) - 1, Conn: draw(s.m.many+3) - 1, Addr: uint32(number()), B: text(), N: number(), Name: text(), Token: text(), Draw: text()}
			if draw(20) == 0 {
				e.Kind, e.Conn = int(number()), int(number())
			}
			if e.Kind == api.EvTick && draw(4) > 0 {
				e.N = int64(draw(3))
			}
			s.step(e)
			s.b.Used(text(), int(number()))
			s.b.Waiting(text())
		}
	}
}

// P3: a configuration is not kept, nor changed, nor its spare room.
func TestTheConfigurationIsNotKept(t *testing.T) {
	c := config()
	c.Tenants = append(make([]api.Tenant, 0, 9), c.Tenants...)
	for i := range c.Tenants {
		c.Tenants[i].Nets = append(make([]api.Net, 0, 9), c.Tenants[i].Nets...)
		c.Tenants[i].Tokens = append(make([]api.Token, 0, 9), c.Tenants[i].Tokens...)
	}
	s := &bench{t, broker.New(c), newModel(config())}
	p := newPlayer(s.m, 4711)
	for range 200 {
		s.step(p.event())
	}
	if !likeConfig(c, config()) {
		t.Errorf("the configuration became %+v", c)
	}
	for i := range c.Tenants {
		for j := range c.Tenants[i].Nets {
			c.Tenants[i].Nets[j] = api.Net{}
		}
		for j := range c.Tenants[i].Tokens {
			c.Tenants[i].Tokens[j] = api.Token{Name: "k", Secret: "changed", Until: 0}
		}
		c.Tenants[i].Name, c.Tenants[i].Names, c.Tenants[i].Visitors = "z", 0, 0
	}
	for range 200 {
		s.step(p.event())
	}
}

func likeConfig(a api.Config, b api.Config) bool {
	if a.Wait != b.Wait || a.Grace != b.Grace || a.Idle != b.Idle || a.Lease != b.Lease {
		return false
	}
	for _, t := range a.Tenants {
		if room := t.Nets[len(t.Nets):cap(t.Nets)]; slices.ContainsFunc(room, func(n api.Net) bool { return n != api.Net{} }) {
			return false
		}
		if room := t.Tokens[len(t.Tokens):cap(t.Tokens)]; slices.ContainsFunc(room, func(k api.Token) bool { return k != api.Token{} }) {
			return false
		}
	}
	for _, t := range a.Tenants[len(a.Tenants):cap(a.Tenants)] {
		if t.Name != "" || t.Tokens != nil || t.Nets != nil {
			return false
		}
	}
	return slices.EqualFunc(a.Tenants, b.Tenants, func(x, y api.Tenant) bool {
		return x.Name == y.Name && x.Names == y.Names && x.Visitors == y.Visitors && slices.Equal(x.Nets, y.Nets) && slices.Equal(x.Tokens, y.Tokens)
	})
}

// P3: what comes out is new: it is the same whatever comes then, and what is done to it nothing feels.
func TestWhatComesOutIsNew(t *testing.T) {
	s := newBench(t, config())
	v, c, h := s.pair("ann", "web")
	s.reaches(h, "web")
	o := s.bytes(v, "hello")
	sent := o.Sent[:cap(o.Sent)]
	for i := range sent {
		sent[i] = api.Sent{Conn: -7, B: "?"}
	}
	roles, pairs, leases, waiting := s.b.Roles(), s.b.Pairs(), s.b.Leases(), s.b.Waiting("web")
	was := [4]any{roles[0], pairs[0], leases[0], waiting[0]}
	s.sends(s.bytes(v, "again"), api.Sent{Conn: c, B: "again"})
	s.tick(1)
	s.reset(h)
	s.reset(v)
	s.holder("ann", "ftp")
	if was != [4]any{roles[0], pairs[0], leases[0], waiting[0]} {
		t.Error("what came out was changed")
	}
	if len(sent) > 0 && sent[0].Conn != -7 {
		t.Error("what was sent was changed")
	}
}

// P3: one script comes to one end, as often as it is gone through, and whether or not anything is asked on the way; two brokers have nothing in common.
func TestTheSameAgain(t *testing.T) {
	for seed := range uint32(10) {
		s := newBench(t, brisk())
		p := newPlayer(s.m, seed+12345)
		others := []*broker.Broker{broker.New(brisk()), broker.New(brisk())}
		noise := broker.New(brisk())
		for range 300 {
			e := p.event()
			o := s.step(e)
			noise.Step(p.event())
			for _, b := range others {
				if got := b.Step(e); !same(got, o) {
					t.Fatalf("seed %d: of %+v came %+v, not %+v", seed, e, got, o)
				}
			}
		}
	}
}

// What others do is no matter to a pair (T2).
func TestApart(t *testing.T) {
	alone, among := newBench(t, calm()), newBench(t, calm())
	v, c, h := alone.pair("ann", "web")
	among.pair("ann", "web")
	p := newPlayer(among.m, 77)
	draw := drawer(5)
	for range 400 {
		for _, one := range []int{v, c} {
			e := api.Ev{Kind: api.EvBytes, Conn: one, B: row(draw(251), draw(40))}
			got, want := among.step(e), alone.step(e)
			if !same(got, want) {
				t.Fatalf("of %+v came %+v, and alone %+v", e, got, want)
			}
		}
		if e := p.event(); e.Conn != v && e.Conn != c && e.Conn != h {
			o := among.step(e)
			if slices.ContainsFunc(o.Sent, func(one api.Sent) bool { return one.Conn == v || one.Conn == c }) {
				t.Fatalf("of %+v was sent %+v", e, o.Sent)
			}
		}
	}
}
