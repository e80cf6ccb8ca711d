package broker_test

import (
	"slices"
	"strings"
	"testing"

	"subway/api"
)

// What goes on between both of a pair (P19.3).

func TestBothWays(t *testing.T) {
	s := newBench(t, config())
	v, c, h := s.pair("ann", "web")
	s.sends(s.bytes(v, "hello"), api.Sent{Conn: c, B: "hello"})
	s.sends(s.bytes(c, "back"), api.Sent{Conn: v, B: "back"})
	s.sends(s.bytes(v, ""))
	for n := range 20 {
		s.sends(s.bytes(v, row(n, 512)), api.Sent{Conn: c, B: row(n, 512)})
		s.sends(s.bytes(c, row(n+7, 300)), api.Sent{Conn: v, B: row(n+7, 300)})
	}
	if o := s.bytes(v, row(0, 600)); o.Took != 512 {
		t.Errorf("of 600 %d are taken", o.Took)
	}
	s.sends(s.say(h, api.Msg{Kind: api.Beat}))
}

// What a visitor said ahead of it, and what an agent said behind its ticket, is the other one's.
func TestEarlyBytes(t *testing.T) {
	s := newBench(t, config())
	a := s.holder("ann", "web")
	v := s.connect()
	o := s.bytes(v, framed(api.Msg{Kind: api.Reach, A: "web"})+"early")
	s.bytes(v, " bird")
	s.half(v)
	c := s.agent("ann")
	s.sends(s.bytes(c, framed(api.Msg{Kind: api.Ticket, B: s.told(o, a)[0].B})+"worm"),
		api.Sent{Conn: v, B: "worm"},
		api.Sent{Conn: c, B: "early bird", End: true})
	s.sends(s.half(c), api.Sent{Conn: v, End: true, Closed: true}, api.Sent{Conn: c, Closed: true})
}

// All that a visitor may have said goes at once, though more comes than may wait between both.
func TestMuchThatIsEarly(t *testing.T) {
	s := newBench(t, config())
	a := s.holder("ann", "web")
	v := s.connect()
	o := s.say(v, api.Msg{Kind: api.Reach, A: "web"})
	s.bytes(v, row(3, 600))
	c := s.agent("ann")
	s.sends(s.say(c, api.Msg{Kind: api.Ticket, B: s.told(o, a)[0].B}), api.Sent{Conn: c, B: row(3, 512)})
}

// Without credit as many are taken as may wait: to be sent, between both, and of what came.
func TestHeldUp(t *testing.T) {
	s := newBench(t, config())
	v, c := s.bare("ann", "web")
	most := maxOut + maxRelay + maxIn
	taken := ""
	for at := 0; at < most; at += 128 {
		o := s.bytes(v, row(at, 128))
		s.sends(o)
		if o.Took != 128 {
			t.Fatalf("of the bytes from the %dth on %d are taken", at, o.Took)
		}
		taken += row(at, 128)
	}
	for range 3 {
		if o := s.bytes(v, "more"); o.Err != api.OK || o.Took != 0 || len(o.Sent) != 0 {
			t.Fatalf("more than may wait: %+v", o)
		}
	}
	s.sends(s.bytes(c, "back")) // the other way is free
	s.sends(s.budget(v, 2), api.Sent{Conn: v, B: "ba"})
	s.sends(s.half(v)) // nothing more comes, and much is to go
	at := 0
	for _, n := range []int{1, 100, 1000, 600} {
		s.sends(s.budget(c, int64(n)), api.Sent{Conn: c, B: taken[at : at+n]})
		at += n
	}
	s.sends(s.budget(c, int64(most-at-1)), api.Sent{Conn: c, B: taken[at : most-1]})
	s.sends(s.budget(c, 1), api.Sent{Conn: c, B: taken[most-1:], End: true})
	s.sends(s.half(c))
	s.sends(s.budget(v, 1), api.Sent{Conn: v, B: "c"})
	s.sends(s.budget(v, 1), api.Sent{Conn: v, B: "k", End: true, Closed: true}, api.Sent{Conn: c, Closed: true})
	s.has("ann", 1, 0)
}

// With each byte of credit there is room for one more.
func TestRoomForMore(t *testing.T) {
	s := newBench(t, config())
	v, c := s.bare("ann", "web")
	most := maxOut + maxRelay + maxIn
	for at := 0; at < most; at += 256 {
		s.bytes(c, row(at, 256))
	}
	for i := range 300 {
		s.sends(s.budget(v, 3), api.Sent{Conn: v, B: row(i*3, 3)})
		if o := s.bytes(c, row(most+i*3, 5)); o.Took != 3 || len(o.Sent) != 0 {
			t.Fatalf("%+v", o)
		}
	}
}

// An end needs no credit, but for what is ahead of it; it is sent once.
func TestEnds(t *testing.T) {
	s := newBench(t, config())
	v, c := s.bare("ann", "web")
	s.sends(s.half(v), api.Sent{Conn: c, End: true})
	s.fails(api.Ev{Kind: api.EvHalf, Conn: v}, api.ErrArg)
	for range 3 {
		s.sends(s.budget(c, 5))
		s.sends(s.tick(1))
		if o := s.bytes(v, "more"); o.Took != 0 || o.Err != api.OK || len(o.Sent) != 0 {
			t.Errorf("behind the end: %+v", o)
		}
	}
	s.lives(v, c)
	s.has("ann", 1, 1)
	s.sends(s.bytes(c, "last"))
	s.sends(s.half(c))
	s.lives(v, c) // what is to be sent to the visitor has no credit yet
	s.sends(s.budget(v, 3), api.Sent{Conn: v, B: "las"})
	s.sends(s.budget(v, 3), api.Sent{Conn: v, B: "t", End: true, Closed: true}, api.Sent{Conn: c, Closed: true})
	s.dies(v, c)
	s.has("ann", 1, 0)
}

// The caller may end first, too.
func TestTheCallerEnds(t *testing.T) {
	s := newBench(t, config())
	v, c, _ := s.pair("ann", "web")
	s.sends(s.half(c), api.Sent{Conn: v, End: true})
	s.sends(s.bytes(v, "on"), api.Sent{Conn: c, B: "on"})
	s.sends(s.half(v), api.Sent{Conn: v, Closed: true}, api.Sent{Conn: c, End: true, Closed: true})
}

// Both of a pair are closed with each other: what waits goes as far as credit lets it, what waits between both is lost.
func TestOneOfAPairIsClosed(t *testing.T) {
	for _, first := range []bool{true, false} {
		s := newBench(t, config())
		v, c := s.bare("ann", "web")
		other, friend := s.another(1, "ann", "web")
		s.bytes(v, row(0, 500))
		s.bytes(v, row(500, 500))
		s.bytes(v, row(1000, 500))
		s.bytes(c, "back")
		s.budget(c, 1)
		s.has("ann", 1, 2)
		gone := c
		if first {
			gone = v
		}
		s.sends(s.reset(gone), api.Sent{Conn: v, Closed: true}, api.Sent{Conn: c, Closed: true})
		s.dies(v, c)
		s.has("ann", 1, 1)
		hold(t, "pairs", s.b.Pairs(), []api.Pair{{Visitor: other, Caller: friend}}, api.Pair{})
		s.sends(s.bytes(other, "on"), api.Sent{Conn: friend, B: "on"})
		s.fails(api.Ev{Kind: api.EvBytes, Conn: v, B: "x"}, api.ErrNone)
		s.fails(api.Ev{Kind: api.EvBytes, Conn: c, B: "x"}, api.ErrNone)
		s.sends(s.say(1, api.Msg{Kind: api.Beat})) // who holds the name is there yet
		s.reaches(1, "web")
	}
}

// A pair that is still for the idle time is closed: each byte that goes into it, or out of it, counts, either way, and nothing else.
func TestIdlePairs(t *testing.T) {
	beat := func(s *bench) { // the name's holder is no matter here
		s.say(1, api.Msg{Kind: api.Beat}, api.Msg{Kind: api.Renew, A: "web", N: 1, M: 50})
	}
	closed := func(v, c int) []api.Sent {
		return []api.Sent{{Conn: v, Closed: true}, {Conn: c, Closed: true}}
	}
	for what, some := range map[string]struct {
		do     func(s *bench, v, c int)
		counts bool
	}{
		"a byte of the visitor":     {func(s *bench, v, _ int) { s.bytes(v, "x") }, true},
		"a byte of the caller":      {func(s *bench, _, c int) { s.bytes(c, "x") }, true},
		"no byte":                   {func(s *bench, v, _ int) { s.bytes(v, "") }, false},
		"credit":                    {func(s *bench, v, c int) { s.budget(v, 9); s.budget(c, 9) }, false},
		"an end":                    {func(s *bench, v, _ int) { s.half(v) }, false},
		"an end of the caller":      {func(s *bench, _, c int) { s.half(c) }, false},
		"what its holder does":      {func(s *bench, _, _ int) { beat(s) }, false},
		"another one that comes":    {func(s *bench, _, _ int) { s.connect() }, false},
		"time":                      {func(s *bench, _, _ int) { s.tick(0) }, false},
		"another visitor":           {func(s *bench, _, _ int) { s.reaches(1, "web") }, false},
		"a byte behind its own end": {func(s *bench, v, _ int) { s.half(v); s.bytes(v, "x") }, false},
	} {
		s := newBench(t, config())
		v, c, h := s.pair("ann", "web")
		s.tick(10)
		beat(s)
		s.tick(15)
		some.do(s, v, c)
		s.tick(4)
		s.lives(v, c, h)
		if !some.counts {
			if o := s.tick(1); !slices.Equal(o.Sent[len(o.Sent)-2:], closed(v, c)) && !slices.Equal(o.Sent[:2], closed(v, c)) {
				t.Errorf("%s: %+v", what, o)
			}
			s.dies(v, c)
			continue
		}
		beat(s)
		s.tick(20)
		beat(s)
		s.tick(5)
		s.lives(v, c)
		s.sends(s.tick(1), closed(v, c)...)
		s.has("ann", 1, 0)
	}
}

// What is sent of what waited already is nothing that goes in, or out: but it may make room for what does.
func TestIdlePairsThatAreHeldUp(t *testing.T) {
	s := newBench(t, config())
	v, c := s.bare("ann", "web")
	s.bytes(v, "waits")
	s.tick(20)
	s.sends(s.budget(c, 5), api.Sent{Conn: c, B: "waits"})
	s.tick(9)
	s.lives(v, c)
	s.tick(1)
	s.dies(v, c)

	s = newBench(t, config())
	v, c = s.bare("ann", "web")
	for at := 0; at < 1280; at += 320 { // 1024 wait to be sent, 256 between both
		s.bytes(v, row(at, 320))
	}
	s.tick(20)
	s.sends(s.bytes(v, "x")) // for it there is no room but where it came
	s.tick(5)
	s.say(1, api.Msg{Kind: api.Beat})
	s.sends(s.budget(c, 1), api.Sent{Conn: c, B: "\x00"}) // now there is
	s.tick(29)
	s.lives(v, c)
	s.tick(1)
	s.dies(v, c)

	s = newBench(t, config())
	v, c = s.bare("ann", "web")
	for at := 0; at < 1280; at += 320 {
		s.bytes(v, row(at, 320))
	}
	s.tick(20)
	s.bytes(v, "x")
	s.tick(10)
	s.dies(v, c)

	s = newBench(t, config())
	v, c = s.bare("ann", "web")
	for at := 0; at < 1024; at += 256 {
		s.bytes(v, row(at, 256))
	}
	s.tick(20)
	s.bytes(v, "x") // goes in, though nothing goes out
	s.say(1, api.Msg{Kind: api.Beat})
	s.tick(29)
	s.lives(v, c)
	s.tick(1)
	s.dies(v, c)
}

// What becomes of the agent that holds the name, of the name, and of the token, is no matter to a pair.
func TestPairsGoOn(t *testing.T) {
	for what, do := range map[string]func(s *bench){
		"released": func(s *bench) { s.say(1, api.Msg{Kind: api.Release, A: "web", N: 1}) },
		"evicted":  func(s *bench) { s.step(api.Ev{Kind: api.EvEvict, Name: "web"}) },
		"revoked":  func(s *bench) { s.step(api.Ev{Kind: api.EvRevoke, Name: "ann", Token: "k"}) },
		"reset":    func(s *bench) { s.reset(1) },
		"refused":  func(s *bench) { s.bytes(1, "zz") },
		"claimed anew": func(s *bench) {
			s.step(api.Ev{Kind: api.EvEvict, Name: "web"})
			s.holder("bob", "web")
		},
	} {
		s := newBench(t, config())
		v, c, _ := s.pair("ann", "web")
		s.bytes(v, "a")
		do(s)
		s.sends(s.bytes(v, "b"), api.Sent{Conn: c, B: "b"})
		s.sends(s.bytes(c, "c"), api.Sent{Conn: v, B: "c"})
		s.is(v, api.Role{Conn: v, Kind: api.RolePaired, Tenant: "ann", Name: "web", Epoch: 1})
		if s.b.Used("ann", api.Visitors) != 1 {
			t.Errorf("%s: ann has %d visitors", what, s.b.Used("ann", api.Visitors))
		}
	}
}

// A place of a visitor's is free when its pair is closed, once.
func TestPlacesOfVisitors(t *testing.T) {
	s := newBench(t, config())
	h := s.holder("ann", "web")
	for range 5 {
		var pairs [][2]int
		for range 3 {
			v, c := s.another(h, "ann", "web")
			pairs = append(pairs, [2]int{v, c})
		}
		x := s.connect()
		s.isRefused(s.say(x, api.Msg{Kind: api.Reach, A: "web"}), x, api.ErrQuota)
		for i, p := range pairs {
			s.reset(p[i%2])
			s.has("ann", 1, 2-i)
		}
	}
}

// stream is one way of a pair: what was taken at one side, and what was sent at the other one.
type stream struct {
	taken string
	sent  string
	ended bool // no more will be taken
	end   bool // that was sent
}

// gets has some be sent of it.
func (w *stream) gets(t *testing.T, one api.Sent) {
	t.Helper()
	if w.end && (one.B != "" || one.End) {
		t.Fatalf("behind the end %+v was sent", one)
	}
	w.sent += one.B
	w.end = w.end || one.End
	if !strings.HasPrefix(w.taken, w.sent) {
		t.Fatalf("%d bytes were sent that are no beginning of %d", len(w.sent), len(w.taken))
	}
	if one.End && (!w.ended || w.sent != w.taken) {
		t.Fatalf("an end was sent behind %d of %d bytes", len(w.sent), len(w.taken))
	}
	if len(w.taken)-len(w.sent) > maxIn+maxRelay+maxOut {
		t.Fatalf("%d bytes wait", len(w.taken)-len(w.sent))
	}
}

// What is sent is a beginning of what was taken, whatever others do; with enough credit it is all of it, and an end.
func TestStreams(t *testing.T) {
	for seed := range uint32(40) {
		draw := drawer(seed*31 + 7)
		s := newBench(t, config())
		h := s.holder("ann", "web")
		ways := map[int]*stream{} // by who says it
		other := map[int]int{}
		var ids []int
		for range 2 {
			v, c := s.another(h, "ann", "web")
			ids = append(ids, v, c)
			ways[v], ways[c], other[v], other[c] = &stream{}, &stream{}, c, v
		}
		v, c := s.bareOf(h, "ann", "web")
		ids = append(ids, v, c)
		ways[v], ways[c], other[v], other[c] = &stream{}, &stream{}, c, v
		see := func(o api.Out) {
			t.Helper()
			for _, one := range o.Sent {
				ways[other[one.Conn]].gets(t, one)
			}
		}
		for range 150 {
			id := ids[draw(len(ids))]
			if s.role(id).Kind == 0 {
				continue
			}
			switch draw(9) {
			case 0, 1, 2, 3, 4:
				b := row(draw(251), draw(600))
				see(s.says(id, b, ways[id]))
			case 5, 6, 7:
				see(s.budget(id, int64(draw(900))))
			default:
				if !ways[id].ended && draw(8) == 0 {
					ways[id].ended = true
					see(s.half(id))
				}
			}
		}
		for _, id := range ids {
			if s.role(id).Kind == 0 {
				continue
			}
			if !ways[id].ended {
				ways[id].ended = true
				see(s.half(id))
			}
		}
		for _, id := range ids {
			if s.role(id).Kind != 0 {
				see(s.budget(id, maxBudget))
			}
		}
		for id, w := range ways {
			if w.sent != w.taken || !w.end {
				t.Errorf("seed %d: of %d's %d bytes %d were sent, the end: %t", seed, id, len(w.taken), len(w.sent), w.end)
			}
		}
		s.dies(ids...)
		s.has("ann", 1, 0)
	}
}

// says has bytes come of one.
func (s *bench) says(id int, b string, w *stream) api.Out {
	s.t.Helper()
	o := s.bytes(id, b)
	w.taken += b[:o.Took]
	return o
}
