package broker_test

import (
	"strconv"
	"strings"
	"testing"

	"subway/api"
	"subway/mac"
)

// What came is read (P19.1).

func TestFramesInPieces(t *testing.T) {
	whole := frames(api.Msg{Kind: api.Hello, A: "ann", B: "k"}, api.Msg{Kind: api.Proof, A: mac.Proof([]byte("s"), "ann", "k", nonce)}, api.Msg{Kind: api.Claim, A: "web", N: 9}, api.Msg{Kind: api.Claim, A: "ftp", N: 9})
	want := frames(api.Msg{Kind: api.Nonce, A: nonce}, api.Msg{Kind: api.Welcome}, api.Msg{Kind: api.Granted, A: "web", N: 1, M: 9}, api.Msg{Kind: api.Granted, A: "ftp", N: 2, M: 9})
	for size := 1; size <= len(whole); size++ {
		s := newBench(t, config())
		id := s.connect()
		got := ""
		for at := 0; at < len(whole); at += size {
			o := s.bytes(id, whole[at:min(at+size, len(whole))])
			for _, one := range o.Sent {
				got += one.B
			}
		}
		if got != want {
			t.Errorf("in pieces of %d: %q, not %q", size, got, want)
		}
	}
}

// Messages ahead of what is wrong are heard, those behind it are not.
func TestWhatIsNoMessage(t *testing.T) {
	for _, wrong := range []string{
		"x", "zz", "\x00", "\xab", "\xaa\x00", "\xaa\xc9", "\xaa\xff", // no frames
		"\xaa\x01\x00", "\xaa\x01\x0f", "\xaa\x01\x01", "\xaa\x02\x04\x00", "\xaa\x03\x06\x03w", "\xaa\x02\x0d\x00", // frames of no message
	} {
		claim := framed(api.Msg{Kind: api.Claim, A: "web", N: 9})
		for _, behind := range []string{"", claim} {
			s := newBench(t, config())
			a := s.agent("ann")
			s.sends(s.bytes(a, claim+wrong+behind), api.Sent{Conn: a, B: frames(api.Msg{Kind: api.Granted, A: "web", N: 1, M: 9}, refused(api.ErrFrame)), Closed: true})
			fresh := s.connect()
			s.isRefused(s.bytes(fresh, wrong+behind), fresh, api.ErrFrame)
		}
	}
}

func TestWhatMayBeAFrameYet(t *testing.T) {
	s := newBench(t, config())
	for _, b := range []string{"", "\xaa", "\xaa\x01", "\xaa\xc8", "\xaa\x03\x0d\x00"} {
		id := s.connect()
		s.sends(s.bytes(id, b))
		s.lives(id)
	}
}

// Who is new shows who it is (P19.4).

func TestNonce(t *testing.T) {
	for draw, want := range map[string]string{
		"":                     "",
		"\x00":                 "00",
		"a\xff":                "61ff",
		"0123456789abcde":      "303132333435363738396162636465",
		"0123456789abcdef":     nonce,
		"0123456789abcdefg":    nonce,
		drawn + row(0, 3000):   nonce,
		row(200, 16):           "c8c9cacbcccdcecfd0d1d2d3d4d5d6d7",
		strings.Repeat("z", 9): strings.Repeat("7a", 9),
	} {
		s := newBench(t, config())
		id := s.connect()
		o := s.step(api.Ev{Kind: api.EvBytes, Conn: id, B: framed(api.Msg{Kind: api.Hello, A: "ann", B: "k"}), Draw: draw})
		s.sends(o, api.Sent{Conn: id, B: framed(api.Msg{Kind: api.Nonce, A: want})})
		s.is(id, api.Role{Conn: id, Kind: api.RoleNew})
		s.tick(5)
		// what is drawn with the proof is no matter
		o = s.step(api.Ev{Kind: api.EvBytes, Conn: id, B: framed(api.Msg{Kind: api.Proof, A: mac.Proof([]byte("s"), "ann", "k", want)}), Draw: "else"})
		s.sends(o, api.Sent{Conn: id, B: framed(api.Msg{Kind: api.Welcome})})
		s.is(id, api.Role{Conn: id, Kind: api.RoleAgent, Tenant: "ann"})
	}
}

func TestProofs(t *testing.T) {
	good := mac.Proof([]byte("s"), "ann", "k", nonce)
	for what, c := range map[string]struct {
		tenant string
		token  string
		proof  string
		want   api.Errno
	}{
		"no proof":               {"ann", "k", "", api.ErrProof},
		"another proof":          {"ann", "k", strings.Repeat("0", 64), api.ErrProof},
		"a piece of it":          {"ann", "k", good[:63], api.ErrProof},
		"another secret":         {"ann", "k", mac.Proof([]byte("t"), "ann", "k", nonce), api.ErrProof},
		"another tenant's":       {"ann", "k", mac.Proof([]byte("s"), "bob", "k", nonce), api.ErrProof},
		"another token's":        {"ann", "k", mac.Proof([]byte("s"), "ann", "l", nonce), api.ErrProof},
		"another nonce":          {"ann", "k", mac.Proof([]byte("s"), "ann", "k", nonce[1:]), api.ErrProof},
		"a token that is none":   {"ann", "z", mac.Proof([]byte("s"), "ann", "z", nonce), api.ErrNone},
		"a tenant that is none":  {"eve", "k", mac.Proof([]byte("s"), "eve", "k", nonce), api.ErrNone},
		"no names":               {"", "", "", api.ErrNone},
		"names that are long":    {strings.Repeat("a", 64), strings.Repeat("b", 64), strings.Repeat("c", 64), api.ErrNone},
		"the other one's secret": {"bob", "k", good, api.ErrProof},
	} {
		s := newBench(t, config())
		id := s.connect()
		s.sends(s.say(id, api.Msg{Kind: api.Hello, A: c.tenant, B: c.token}), api.Sent{Conn: id, B: framed(api.Msg{Kind: api.Nonce, A: nonce})}) // whoever says it
		s.isRefused(s.say(id, api.Msg{Kind: api.Proof, A: c.proof}), id, c.want)
		t.Log(what)
	}
}

// A nonce is of use to the one alone that it was given to.
func TestAnothersNonce(t *testing.T) {
	s := newBench(t, config())
	a, b := s.connect(), s.connect()
	hello := framed(api.Msg{Kind: api.Hello, A: "ann", B: "k"})
	s.step(api.Ev{Kind: api.EvBytes, Conn: a, B: hello, Draw: "a"})
	s.step(api.Ev{Kind: api.EvBytes, Conn: b, B: hello, Draw: "b"})
	s.isRefused(s.say(b, api.Msg{Kind: api.Proof, A: mac.Proof([]byte("s"), "ann", "k", "61")}), b, api.ErrProof)
	s.sends(s.say(a, api.Msg{Kind: api.Proof, A: mac.Proof([]byte("s"), "ann", "k", "61")}), api.Sent{Conn: a, B: framed(api.Msg{Kind: api.Welcome})})
}

// A token is good up to its time, and as long as it is not revoked: what counts is when the proof comes.
func TestTokensThatAreGoodNoMore(t *testing.T) {
	s := newBench(t, config())
	s.tick(90)
	early, late := s.connect(), s.connect()
	for _, id := range []int{early, late} {
		s.say(id, api.Msg{Kind: api.Hello, A: "ann", B: "l"})
	}
	s.tick(9)
	s.sends(s.say(early, s.proof("ann", "l")), api.Sent{Conn: early, B: framed(api.Msg{Kind: api.Welcome})})
	s.tick(1)
	s.isRefused(s.say(late, s.proof("ann", "l")), late, api.ErrNone)
	s.lives(early) // it showed a token that was good
	s.step(api.Ev{Kind: api.EvRevoke, Name: "ann", Token: "l"})
	s.dies(early) // as of what it showed, however long that is past its time
}

func TestShakesThatAreWrong(t *testing.T) {
	hello := api.Msg{Kind: api.Hello, A: "ann", B: "k"}
	for _, m := range kinds() {
		if m.Kind != api.Hello && m.Kind != api.Reach {
			s := newBench(t, config())
			id := s.connect()
			s.isRefused(s.say(id, m), id, api.ErrArg)
		}
		if m.Kind != api.Proof {
			s := newBench(t, config())
			s.holder("ann", "web")
			id := s.connect()
			s.say(id, hello)
			s.isRefused(s.say(id, m), id, api.ErrArg) // a reach, too, for a name that is held
			s.has("ann", 1, 0)
		}
	}
}

// kinds is a message of each kind.
func kinds() []api.Msg {
	return []api.Msg{
		{Kind: api.Hello, A: "ann", B: "k"},
		{Kind: api.Nonce, A: nonce},
		{Kind: api.Proof, A: mac.Proof([]byte("s"), "ann", "k", nonce)},
		{Kind: api.Welcome},
		{Kind: api.Refuse, N: 1},
		{Kind: api.Claim, A: "web", N: 9},
		{Kind: api.Granted, A: "web", N: 1, M: 9},
		{Kind: api.Renew, A: "web", N: 1, M: 9},
		{Kind: api.Release, A: "web", N: 1},
		{Kind: api.Gone, A: "web", N: 1},
		{Kind: api.Call, A: "web", B: "t"},
		{Kind: api.Ticket, B: "t"},
		{Kind: api.Beat},
		{Kind: api.Reach, A: "web"},
	}
}

// Who said hello may be still for Idle, not for Wait alone.
func TestTheAlarmOfWhoIsHeard(t *testing.T) {
	s := newBench(t, config())
	a := s.connect()
	s.tick(19)
	s.say(a, api.Msg{Kind: api.Hello, A: "ann", B: "k"})
	s.tick(29)
	s.lives(a)
	s.say(a, s.proof("ann", "k"))
	s.tick(29)
	s.lives(a)
	s.sends(s.tick(1), api.Sent{Conn: a, Closed: true})
}

// Who is new reaches for a name.

func TestReach(t *testing.T) {
	s := newBench(t, config())
	a := s.holder("ann", "web")
	s.holder("bob", "ssh")
	var want []int
	for i, draw := range []string{"", "drawn", row(0, 300)} {
		v := s.open(uint32(i) << 30)
		o := s.step(api.Ev{Kind: api.EvBytes, Conn: v, B: framed(api.Msg{Kind: api.Reach, A: "web"}), Draw: draw})
		ticket := mac.Proof([]byte("subway"), strconv.Itoa(i+1), draw[:min(255, len(draw))])[:32]
		s.sends(o, api.Sent{Conn: a, B: framed(api.Msg{Kind: api.Call, A: "web", B: ticket})})
		s.is(v, api.Role{Conn: v, Kind: api.RoleVisitor, Tenant: "ann", Name: "web", Epoch: 1})
		want = append(want, v)
		s.waits("web", want...)
		s.has("ann", 1, i+1)
	}
	s.has("bob", 1, 0)
}

func TestReachesThatAreRefused(t *testing.T) {
	s := newBench(t, config())
	reach := func(id int, name string, e api.Errno) {
		t.Helper()
		s.isRefused(s.say(id, api.Msg{Kind: api.Reach, A: name}, api.Msg{Kind: api.Beat}), id, e)
	}
	reach(s.connect(), "web", api.ErrNone)
	a, b, c := s.holder("ann", "web"), s.holder("bob", "ssh"), s.holder("cid", "ftp")
	for _, name := range []string{"we", "webs", "Web", "web-1", strings.Repeat("w", 20)} {
		reach(s.connect(), name, api.ErrNone)
	}
	// what is told first is told: who holds it, from where, how many
	reach(s.connect(), "ftp", api.ErrQuota)
	for _, addr := range []uint32{0, 9<<24 + 6, 9<<24 + 8, 11 << 24, 1<<32 - 1} {
		reach(s.from(addr), "ssh", api.ErrNet)
	}
	v := s.from(10<<24 + 99)
	s.reachesBy(b, v, "ssh")
	reach(s.from(10<<24), "ssh", api.ErrQuota)
	reach(s.from(9<<24+7), "ssh", api.ErrQuota)
	reach(s.connect(), "ssh", api.ErrNet)
	s.has("bob", 1, 1)
	s.reset(v)
	s.has("bob", 1, 0)
	s.reachesBy(b, s.from(9<<24+7), "ssh")
	for range 3 {
		s.reaches(a, "web")
	}
	reach(s.connect(), "web", api.ErrQuota)
	s.has("ann", 1, 3)
	// a name that is kept is held by nobody
	s.say(c, api.Msg{Kind: api.Release, A: "ftp", N: 3})
	reach(s.connect(), "ftp", api.ErrNone)
}

// A text that is no name is nobody's.
func TestReachesForNoName(t *testing.T) {
	for _, name := range []string{"", "-", "web-", "w b", "Web", strings.Repeat("w", 21), strings.Repeat("w", 64)} {
		s := newBench(t, config())
		s.holder("ann", "web")
		id := s.connect()
		s.isRefused(s.say(id, api.Msg{Kind: api.Reach, A: name}), id, api.ErrNone)
		s.has("ann", 1, 0)
	}
}

// Who waits is closed behind Wait, and the ticket is good no more, nor counted (P19.5).
func TestWaitingEnds(t *testing.T) {
	s := newBench(t, config())
	a := s.holder("ann", "web")
	v, ticket := s.reaches(a, "web")
	s.tick(10)
	w, _ := s.reaches(a, "web")
	s.bytes(v, "what is said is no matter")
	s.budget(v, 9)
	s.sends(s.tick(9))
	s.sends(s.tick(1), api.Sent{Conn: v, Closed: true})
	s.waits("web", w)
	s.has("ann", 1, 1)
	c := s.agent("ann")
	s.isRefused(s.say(c, api.Msg{Kind: api.Ticket, B: ticket}), c, api.ErrSpent)
	s.say(a, api.Msg{Kind: api.Beat})
	s.sends(s.tick(10), api.Sent{Conn: w, Closed: true})
	s.has("ann", 1, 0)
}

// Who goes while it waits is called for no more.
func TestWhoWaitsGoes(t *testing.T) {
	s := newBench(t, config())
	a := s.holder("ann", "web")
	v, ticket := s.reaches(a, "web")
	w, other := s.reaches(a, "web")
	s.sends(s.reset(v), api.Sent{Conn: v, Closed: true})
	s.waits("web", w)
	s.has("ann", 1, 1)
	c, d := s.agent("ann"), s.agent("ann")
	s.isRefused(s.say(c, api.Msg{Kind: api.Ticket, B: ticket}), c, api.ErrSpent)
	s.sends(s.say(d, api.Msg{Kind: api.Ticket, B: other}))
	s.arePaired(w, d)
}

// An agent that is told more than there is room for misses what there is none for; who reaches waits all the same.
func TestToldNothing(t *testing.T) {
	s := newBench(t, config())
	a := s.open(0)
	s.say(a, api.Msg{Kind: api.Hello, A: "ann", B: "k"}, s.proof("ann", "k"), api.Msg{Kind: api.Claim, A: "web", N: 50})
	said := frames(api.Msg{Kind: api.Nonce, A: nonce}, api.Msg{Kind: api.Welcome}, api.Msg{Kind: api.Granted, A: "web", N: 1, M: 50})
	why := framed(refused(api.ErrThere))
	for len(said)+len(why) <= maxOut-10 {
		s.say(a, api.Msg{Kind: api.Claim, A: "web", N: 50})
		said += why
	}
	v := s.connect()
	s.sends(s.say(v, api.Msg{Kind: api.Reach, A: "web"})) // there is no room for a call
	s.is(v, api.Role{Conn: v, Kind: api.RoleVisitor, Tenant: "ann", Name: "web", Epoch: 1})
	s.say(a, api.Msg{Kind: api.Claim, A: "web", N: 50}, api.Msg{Kind: api.Claim, A: "ftp", N: 50}, api.Msg{Kind: api.Beat})
	granted := framed(api.Msg{Kind: api.Granted, A: "ftp", N: 2, M: 50})
	for _, m := range []string{why, granted} {
		if len(said)+len(m) <= maxOut {
			said += m
		}
	}
	s.sends(s.budget(a, plenty), api.Sent{Conn: a, B: said})
	if o := s.bytes(a, "zz"); o.Sent[0].B != framed(refused(api.ErrFrame)) {
		t.Errorf("%+v", o)
	}
}

// What is heard of an agent.

func TestClaim(t *testing.T) {
	s := newBench(t, config())
	a, b := s.agent("ann"), s.agent("bob")
	claim := func(id int, name string, n int64, want api.Msg) {
		t.Helper()
		s.sends(s.say(id, api.Msg{Kind: api.Claim, A: name, N: n}), api.Sent{Conn: id, B: framed(want)})
		s.lives(id)
	}
	s.tick(3)
	for _, name := range []string{"", "-", "web-", "Web", strings.Repeat("w", 21)} {
		claim(a, name, 9, refused(api.ErrArg))
	}
	for _, n := range []int64{0, maxTime + 1, maxNum} {
		claim(a, "web", n, refused(api.ErrArg))
	}
	s.has("ann", 0, 0) // what a refused claim took was given back
	claim(a, "web", 1, api.Msg{Kind: api.Granted, A: "web", N: 1, M: 4})
	claim(a, "web", 9, refused(api.ErrThere))
	claim(b, "web", 9, refused(api.ErrHeld))
	s.has("ann", 1, 0)
	s.has("bob", 0, 0)
	claim(b, "ssh", 51, api.Msg{Kind: api.Granted, A: "ssh", N: 2, M: 53}) // for no longer than Lease
	claim(b, "ssh", 9, refused(api.ErrQuota))                              // ahead of all else
	claim(b, "web", 9, refused(api.ErrQuota))
	claim(b, "-", 0, refused(api.ErrQuota))
	claim(a, "ssh", 9, refused(api.ErrHeld))
	claim(a, strings.Repeat("w", 20), maxTime, api.Msg{Kind: api.Granted, A: strings.Repeat("w", 20), N: 3, M: 53})
	claim(a, "ftp", 9, refused(api.ErrQuota))
	s.has("ann", 2, 0)
	s.tick(1)
	s.has("ann", 1, 0)
	claim(b, "ftp", 9, refused(api.ErrQuota))
	claim(s.agent("dan"), "ftp", 9, refused(api.ErrQuota))
	claim(a, "web", 50, api.Msg{Kind: api.Granted, A: "web", N: 4, M: 54}) // it was kept for ann
	hold(t, "leases", s.b.Leases(), []api.Lease{
		{Name: "ssh", Tenant: "bob", Conn: b, Epoch: 2, Until: 53, Held: true},
		{Name: "web", Tenant: "ann", Conn: a, Epoch: 4, Until: 54, Held: true},
		{Name: strings.Repeat("w", 20), Tenant: "ann", Conn: a, Epoch: 3, Until: 53, Held: true},
	}, api.Lease{})
}

// When there are as many leases as may be, kept ones with them, a claim is refused, and gives the name back.
func TestTooManyLeases(t *testing.T) {
	s := newBench(t, config())
	a := s.agent("ann")
	for i := range maxLeases {
		epoch := s.claims(a, "n"+strconv.Itoa(i))
		s.sends(s.say(a, api.Msg{Kind: api.Release, A: "n" + strconv.Itoa(i), N: epoch}), api.Sent{Conn: a, B: framed(api.Msg{Kind: api.Gone, A: "n" + strconv.Itoa(i), N: epoch})})
	}
	s.isRefusedClaim("bob", "web", api.ErrTooMany)
	s.isRefusedClaim("ann", "web", api.ErrTooMany)
	s.isRefusedClaim("bob", "n7", api.ErrHeld)
	s.claims(a, "n7")
	s.has("ann", 1, 0)
	s.has("bob", 0, 0)
	s.tick(5)
	s.holder("bob", "web")
}

func TestRenew(t *testing.T) {
	s := newBench(t, config())
	a, b, other := s.holder("ann", "web"), s.agent("bob"), s.agent("ann")
	s.tick(10)
	renew := func(id int, name string, n int64, m int64, want api.Msg) {
		t.Helper()
		s.sends(s.say(id, api.Msg{Kind: api.Renew, A: name, N: n, M: m}), api.Sent{Conn: id, B: framed(want)})
		s.lives(id)
	}
	renew(a, "web", 1, 5, api.Msg{Kind: api.Granted, A: "web", N: 1, M: 15})
	renew(a, "web", 1, 50, api.Msg{Kind: api.Granted, A: "web", N: 1, M: 60})
	renew(a, "web", 1, maxTime, api.Msg{Kind: api.Granted, A: "web", N: 1, M: 60})
	renew(other, "web", 1, 40, api.Msg{Kind: api.Granted, A: "web", N: 1, M: 50}) // of the same tenant
	renew(a, "web", 1, 0, refused(api.ErrArg))
	renew(a, "web", 1, maxTime+1, refused(api.ErrArg))
	renew(a, "ftp", 1, 5, refused(api.ErrNone))
	renew(a, "", 1, 5, refused(api.ErrNone))
	renew(b, "web", 1, 5, refused(api.ErrHeld))
	renew(a, "web", 2, 5, refused(api.ErrOld))
	renew(a, "web", 0, 5, refused(api.ErrOld))
	hold(t, "leases", s.b.Leases(), []api.Lease{{Name: "web", Tenant: "ann", Conn: a, Epoch: 1, Until: 50, Held: true}}, api.Lease{})
	s.has("ann", 1, 0)
	v, _ := s.reaches(a, "web") // who was called stays who it was
	renew(a, "web", 1, 1, api.Msg{Kind: api.Granted, A: "web", N: 1, M: 11})
	s.lives(v)
	s.tick(1)
	s.dies(v)
	renew(a, "web", 1, 5, refused(api.ErrNone))
}

func TestRelease(t *testing.T) {
	s := newBench(t, config())
	a, b, other := s.holder("ann", "web"), s.agent("bob"), s.agent("ann")
	s.claims(a, "ftp")
	v, w := s.another(a, "ann", "web")
	x, _ := s.reaches(a, "web")
	y, ticket := s.reaches(a, "ftp")
	release := func(id int, name string, n int64, want api.Errno) {
		t.Helper()
		s.sends(s.say(id, api.Msg{Kind: api.Release, A: name, N: n}), api.Sent{Conn: id, B: framed(refused(want))})
	}
	release(a, "ssh", 1, api.ErrNone)
	release(b, "web", 1, api.ErrHeld)
	release(a, "web", 2, api.ErrOld)
	s.has("ann", 2, 3)
	// one of the tenant's releases it: who held it is told
	s.sends(s.say(other, api.Msg{Kind: api.Release, A: "web", N: 1}),
		api.Sent{Conn: a, B: framed(api.Msg{Kind: api.Gone, A: "web", N: 1})},
		api.Sent{Conn: x, B: framed(refused(api.ErrNone)), Closed: true})
	s.has("ann", 1, 2)
	s.lives(v, w, y)
	release(a, "web", 1, api.ErrNone)
	s.isRefusedClaim("bob", "web", api.ErrHeld)
	s.sends(s.say(a, api.Msg{Kind: api.Release, A: "ftp", N: 2}),
		api.Sent{Conn: a, B: framed(api.Msg{Kind: api.Gone, A: "ftp", N: 2})},
		api.Sent{Conn: y, B: framed(refused(api.ErrNone)), Closed: true})
	s.has("ann", 0, 1)
	s.isRefused(s.say(other, api.Msg{Kind: api.Ticket, B: ticket}), other, api.ErrSpent)
	s.tick(5)
	s.holder("bob", "web")
}

func TestBeat(t *testing.T) {
	s := newBench(t, config())
	a := s.agent("ann")
	for range 5 {
		s.tick(29)
		s.sends(s.say(a, api.Msg{Kind: api.Beat}))
	}
	s.is(a, api.Role{Conn: a, Kind: api.RoleAgent, Tenant: "ann"})
	s.sends(s.tick(30), api.Sent{Conn: a, Closed: true})
}

// An agent that says what agents don't is refused, closed, and its names go, with who waits for them.
func TestWhatAgentsDoNotSay(t *testing.T) {
	for _, m := range kinds() {
		switch m.Kind {
		case api.Claim, api.Renew, api.Release, api.Beat, api.Ticket:
			continue
		}
		s := newBench(t, config())
		a := s.holder("ann", "web")
		s.claims(a, "ftp")
		v, _ := s.reaches(a, "web")
		w, _ := s.reaches(a, "ftp")
		why := framed(refused(api.ErrNone))
		s.sends(s.say(a, m, api.Msg{Kind: api.Beat}), api.Sent{Conn: a, B: framed(refused(api.ErrArg)), Closed: true}, api.Sent{Conn: v, B: why, Closed: true}, api.Sent{Conn: w, B: why, Closed: true})
		s.has("ann", 0, 0)
		if all := s.b.Leases(); len(all) != 2 || all[0].Held || all[1].Held || all[0].Until != 5 {
			t.Errorf("leases are %v", all)
		}
	}
}

// A ticket that is shown pairs (P19.2).

func TestTicket(t *testing.T) {
	s := newBench(t, config())
	a := s.holder("ann", "web")
	v, ticket := s.reaches(a, "web")
	w, other := s.reaches(a, "web")
	c, d := s.agent("ann"), s.agentBy("ann", "l")
	s.sends(s.say(c, api.Msg{Kind: api.Ticket, B: other})) // in whatever order
	s.waits("web", v)
	hold(t, "pairs", s.b.Pairs(), []api.Pair{{Visitor: w, Caller: c}}, api.Pair{})
	s.is(w, api.Role{Conn: w, Kind: api.RolePaired, Tenant: "ann", Name: "web", Epoch: 1})
	s.is(c, api.Role{Conn: c, Kind: api.RolePaired, Tenant: "ann", Name: "web", Epoch: 1})
	s.sends(s.say(d, api.Msg{Kind: api.Ticket, B: ticket}))
	s.waits("web")
	hold(t, "pairs", s.b.Pairs(), []api.Pair{{Visitor: v, Caller: d}, {Visitor: w, Caller: c}}, api.Pair{})
	s.has("ann", 1, 2)
	s.is(a, api.Role{Conn: a, Kind: api.RoleAgent, Tenant: "ann"})
}

func TestTicketsThatAreRefused(t *testing.T) {
	s := newBench(t, config())
	a := s.holder("ann", "web")
	v, ticket := s.reaches(a, "web")
	refuse := func(id int, ticket string, e api.Errno) {
		t.Helper()
		s.isRefused(s.say(id, api.Msg{Kind: api.Ticket, B: ticket}), id, e)
		s.waits("web", v)
	}
	for _, wrong := range []string{"", "x", ticket[:31], ticket + "0", strings.ToUpper(ticket) + "A", strings.Repeat("0", 64)} {
		refuse(s.agent("ann"), wrong, api.ErrSpent)
	}
	refuse(s.agent("bob"), ticket, api.ErrHeld)
	refuse(s.agent("bob"), "x", api.ErrSpent)
	// who holds a name may not call back, whether the ticket is good or not
	for _, shown := range []string{"x", ticket} {
		b := s.agent("ann")
		s.claims(b, "ftp")
		refuse(b, shown, api.ErrArg)
		s.has("ann", 1, 1)
	}
	s.has("bob", 0, 0)
	// the ticket was good all the time
	c := s.agent("ann")
	s.sends(s.say(c, api.Msg{Kind: api.Ticket, B: ticket}))
	s.arePaired(v, c)
	d := s.agent("ann")
	s.isRefused(s.say(d, api.Msg{Kind: api.Ticket, B: ticket}), d, api.ErrSpent)
	s.arePaired(v, c)
	s.has("ann", 1, 1)
}

// Whoever holds no name any more may call back, too.
func TestTicketsOfWhoHeldAName(t *testing.T) {
	for what, ends := range map[string]func(s *bench, id int, epoch int64){
		"released": func(s *bench, id int, epoch int64) {
			s.say(id, api.Msg{Kind: api.Release, A: "ftp", N: epoch})
		},
		"lapsed": func(s *bench, id int, epoch int64) {
			s.say(id, api.Msg{Kind: api.Renew, A: "ftp", N: epoch, M: 1})
			s.tick(1)
		},
		"evicted": func(s *bench, _ int, _ int64) {
			s.step(api.Ev{Kind: api.EvEvict, Name: "ftp"})
		},
	} {
		s := newBench(t, config())
		a, c := s.holder("ann", "web"), s.agent("ann")
		epoch := s.claims(c, "ftp")
		v, ticket := s.reaches(a, "web")
		ends(s, c, epoch)
		s.sends(s.say(c, api.Msg{Kind: api.Ticket, B: ticket}))
		s.arePaired(v, c)
		s.has("ann", 1, 1)
		t.Log(what)
	}
}

// Tickets are those of an epoch: of a name that is claimed anew none of an earlier one is good.
func TestTicketsOfAnEarlierEpoch(t *testing.T) {
	s := newBench(t, config())
	a := s.holder("ann", "web")
	v, ticket := s.reaches(a, "web")
	s.say(a, api.Msg{Kind: api.Release, A: "web", N: 1}, api.Msg{Kind: api.Claim, A: "web", N: 9})
	s.dies(v)
	w, _ := s.reaches(a, "web")
	s.is(w, api.Role{Conn: w, Kind: api.RoleVisitor, Tenant: "ann", Name: "web", Epoch: 2})
	c := s.agent("ann")
	s.isRefused(s.say(c, api.Msg{Kind: api.Ticket, B: ticket}), c, api.ErrSpent)
	s.waits("web", w)
}

// Of one who becomes a visitor, or one of a pair, no more messages are heard.
func TestNoMoreMessages(t *testing.T) {
	s := newBench(t, config())
	a := s.holder("ann", "web")
	v := s.connect()
	more := frames(api.Msg{Kind: api.Hello, A: "ann", B: "k"}, api.Msg{Kind: api.Reach, A: "web"}) + "\xaa\x00 no frame"
	o := s.bytes(v, framed(api.Msg{Kind: api.Reach, A: "web"})+more)
	ticket := s.told(o, a)[0].B
	s.is(v, api.Role{Conn: v, Kind: api.RoleVisitor, Tenant: "ann", Name: "web", Epoch: 1})
	c := s.agent("ann")
	s.sends(s.bytes(c, framed(api.Msg{Kind: api.Ticket, B: ticket})+more), api.Sent{Conn: v, B: more}, api.Sent{Conn: c, B: more})
	s.arePaired(v, c)
	s.sends(s.bytes(c, framed(api.Msg{Kind: api.Beat})), api.Sent{Conn: v, B: framed(api.Msg{Kind: api.Beat})})
}
