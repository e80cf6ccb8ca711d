package shake_test

import (
	"crypto/hmac"
	"crypto/sha256"
	"encoding/hex"
	"fmt"
	"math"
	"slices"
	"strings"
	"testing"
	"unsafe"

	"subway/api"
	"subway/shake"
	"subway/vault"
)

const mostNum = 1 << 40

// ofAll is a configuration with names that are alike: joined, or cut elsewhere, some are the same.
func ofAll() api.Config {
	return api.Config{Wait: 4, Grace: 3, Idle: 2, Lease: 1, Tenants: []api.Tenant{
		{Name: "a", Names: 1, Tokens: []api.Token{{Name: "b-c", Secret: "s", Until: 7}, {Name: "bc", Secret: "s", Until: 8}}},
		{Name: "a-b", Visitors: 8, Tokens: []api.Token{{Name: "c", Secret: "s", Until: 9}}},
		{Name: "ab", Tokens: []api.Token{{Name: "a", Secret: "t", Until: 0}, {Name: "c", Secret: "s", Until: 1}}},
		{Name: "ann", Nets: []api.Net{{}}, Tokens: []api.Token{{Name: "k", Secret: "s", Until: 5}, {Name: "l", Secret: "s", Until: mostNum}}},
		{Name: "bob", Tokens: []api.Token{{Name: "k", Secret: "s", Until: 9}, {Name: "m", Secret: "\xff\x00 \n", Until: 6}}},
		{Name: "none", Names: 8, Visitors: 8},
		{Name: strings.Repeat("t", 20), Tokens: []api.Token{{Name: strings.Repeat("k", 20), Secret: strings.Repeat("\xa0", 32), Until: 5}}},
	}}
}

// held is a token, with its tenant's name.
type held struct {
	tenant string
	token  api.Token
}

// tokens are all of ofAll.
func tokens() []held {
	var out []held
	for _, t := range ofAll().Tenants {
		for _, k := range t.Tokens {
			out = append(out, held{t.Name, k})
		}
	}
	return out
}

// strangers are names of a tenant and a token, of which there is none.
func strangers() [][2]string {
	return [][2]string{
		{"", ""}, {"", "k"}, {"ann", ""}, {"ann", "m"}, {"bob", "l"}, {"k", "ann"}, {"none", "k"}, {"eve", "k"}, {"Ann", "k"}, {"ann", "K"},
		{"ann ", "k"}, {"ann", "k\x00"}, {"a", "c"}, {"ab", "b"}, {"a-b-c", ""}, {"annk", ""}, {"\xff", "\xff"},
		{strings.Repeat("t", 21), strings.Repeat("k", 20)}, {strings.Repeat("a", 64), strings.Repeat("k", 64)}, {strings.Repeat("a", 1<<16), strings.Repeat("k", 1<<16)}, {"ann", strings.Repeat("k", 1<<16)},
	}
}

// proved is the proof of words under a secret, by the library's means: HMAC of texts that begin with how long they are.
func proved(secret string, words ...string) string {
	h := hmac.New(sha256.New, []byte(secret))
	for _, w := range words {
		if len(w) > 255 {
			return ""
		}
		h.Write([]byte{byte(len(w))})
		h.Write([]byte(w))
	}
	return hex.EncodeToString(h.Sum(nil))
}

// proves is what a token proves of a nonce.
func (h held) proves(nonce string) string {
	return proved(h.token.Secret, h.tenant, h.token.Name, nonce)
}

// What is heard, and said.

func hello(tenant, token string) api.Msg { return api.Msg{Kind: 1, A: tenant, B: token} }

func (h held) hello() api.Msg { return hello(h.tenant, h.token.Name) }

func nonce(n string) api.Msg { return api.Msg{Kind: 2, A: n} }

func proof(p string) api.Msg { return api.Msg{Kind: 3, A: p} }

func welcome() api.Msg { return api.Msg{Kind: 4} }

func refuse(e api.Errno) api.Msg { return api.Msg{Kind: 5, N: int64(e)} }

// times are those about one, and the most far ones.
func times(about int64) []int64 {
	return []int64{math.MinInt64, math.MinInt64 + 1, -mostNum, -1, 0, 1, about - 2, about - 1, about, about + 1, about + 2, 1 << 32, mostNum - 1, mostNum, mostNum + 1, math.MaxInt64 - 1, math.MaxInt64}
}

// kinds are those of messages, and what is none's.
func kinds() []int {
	out := []int{-1, -3, 15, 16, 255, 256, 257, 259, 1<<32 + 1, 1<<32 + 3, math.MaxInt, math.MinInt, math.MinInt + 1, math.MinInt + 3}
	for k := range 15 {
		out = append(out, k)
	}
	return out
}

// fresh is a vault of a configuration that is right.
func fresh(t *testing.T, c api.Config) *vault.Vault {
	t.Helper()
	v := vault.New(c)
	if v == nil {
		t.Fatalf("there is no vault of %v", c)
	}
	return v
}

// ann is a token of ann's, that is good until 5.
func ann() held { return held{"ann", api.Token{Name: "k", Secret: "s", Until: 5}} }

// newShake is one that waits for a hello.
func newShake(t *testing.T, v *vault.Vault) *shake.Shake {
	t.Helper()
	s := shake.New(v)
	if s == nil {
		t.Fatal("there is none")
	}
	waits(t, s)
	return s
}

// given is one that was given a nonce, and waits for a proof.
func given(t *testing.T, v *vault.Vault, h held, n string) *shake.Shake {
	t.Helper()
	s := newShake(t, v)
	hears(t, s, h.hello(), 0, n, nonce(n))
	waits(t, s)
	return s
}

// quoted is the beginning of what anything is printed as: messages have bytes of all kinds, and any number of them.
func quoted(x any) string {
	return fmt.Sprintf("%.200q", fmt.Sprint(x))
}

// hears holds what is said to a message.
func hears(t *testing.T, s *shake.Shake, m api.Msg, now int64, n string, want api.Msg) {
	t.Helper()
	if said, is := s.Hear(m, now, n); said != want || !is {
		t.Errorf("to %s at %d, with %.70q: %s, %t, not %s", quoted(m), now, n, quoted(said), is, quoted(want))
	}
}

// waits holds that something is heard yet, and nobody is known.
func waits(t *testing.T, s *shake.Shake) {
	t.Helper()
	if who, is := s.Who(); s.Over() || who != "" || is {
		t.Errorf("it is over: %t; known: %q, %t", s.Over(), who, is)
	}
}

// known holds that one is known as that tenant; lost, that one is refused.
func known(t *testing.T, s *shake.Shake, tenant string) {
	t.Helper()
	if who, is := s.Who(); !s.Over() || who != tenant || !is {
		t.Errorf("it is over: %t; known: %q, %t, not %q", s.Over(), who, is, tenant)
	}
}

func lost(t *testing.T, s *shake.Shake) {
	t.Helper()
	if who, is := s.Who(); !s.Over() || who != "" || is {
		t.Errorf("it is over: %t; known, and should not: %q, %t", s.Over(), who, is)
	}
}

// P12.1, L1: what one is at first, and what is asked of one changes nothing.

func TestOneWaitsForAHello(t *testing.T) {
	v := fresh(t, ofAll())
	s := newShake(t, v)
	for range 3 {
		waits(t, s)
	}
	hears(t, s, hello("ann", "k"), 4, "n", nonce("n"))
	for range 3 {
		waits(t, s)
	}
	hears(t, s, proof(proved("s", "ann", "k", "n")), 4, "n", welcome())
	for range 3 {
		known(t, s, "ann")
	}
}

// P12.1, L2: hello, nonce, proof, welcome.

func TestAllAreKnown(t *testing.T) {
	v := fresh(t, ofAll())
	for _, h := range tokens() {
		for _, now := range []int64{math.MinInt64, -1, h.token.Until - 1} {
			s := given(t, v, h, "n")
			hears(t, s, proof(h.proves("n")), now, "m", welcome())
			known(t, s, h.tenant)
		}
	}
}

// What there is not is said a nonce to as well: only the proof tells.
func TestTokensThatNobodyHas(t *testing.T) {
	v := fresh(t, ofAll())
	for _, x := range strangers() {
		for _, p := range []string{"", "00", "wrong", proved("s", x[0], x[1], "n"), proved("", x[0], x[1], "n"), proved("s", "ann", "k", "n"), strings.Repeat("0", 64), strings.Repeat("f", 1<<16)} {
			s := newShake(t, v)
			hears(t, s, hello(x[0], x[1]), 0, "n", nonce("n"))
			waits(t, s)
			hears(t, s, proof(p), 0, "n", refuse(api.ErrNone))
			lost(t, s)
		}
	}
}

func TestVaultWithoutTokens(t *testing.T) {
	for _, tenants := range [][]api.Tenant{nil, {{Name: "ann"}}} {
		v := fresh(t, api.Config{Wait: 1, Grace: 1, Idle: 1, Lease: 1, Tenants: tenants})
		for _, p := range []string{"", proved("s", "ann", "k", "n")} {
			s := newShake(t, v)
			hears(t, s, hello("ann", "k"), 0, "n", nonce("n"))
			hears(t, s, proof(p), 0, "n", refuse(api.ErrNone))
			lost(t, s)
		}
	}
}

// A Hello and a Proof are told by their kinds; what such a message has not is not looked at.
func TestWhatAMessageHasNot(t *testing.T) {
	v := fresh(t, ofAll())
	for _, n := range []int64{-1, 1, math.MaxInt64} {
		s := newShake(t, v)
		hears(t, s, api.Msg{Kind: api.Hello, A: "ann", B: "k", N: n, M: -n}, 0, "n", nonce("n"))
		hears(t, s, api.Msg{Kind: api.Proof, A: proved("s", "ann", "k", "n"), B: "k", N: n, M: -n}, 0, "n", welcome())
		known(t, s, "ann")
	}
}

// P12.1: nonces, of all lengths about MaxWord.

func nonces() []string {
	out := []string{"", "n", "nn", "\x00", "\x01n", "\xff", "é", "a b\n", "ann"}
	for _, many := range []int{2, 16, 32, 62, 63, 64, 65, 66, 70, 127, 128, 129, 254, 255, 256, 257, 319, 320, 1 << 16} {
		out = append(out, strings.Repeat("n", many), strings.Repeat("\x00", many))
	}
	out = append(out, "n"+strings.Repeat("é", 32), strings.Repeat("é", 33), strings.Repeat("\xff", 65)) // of the first one, a letter is cut
	for _, behind := range []string{"n", "m", "nm", "\x00"} {
		out = append(out, strings.Repeat("m", 63)+behind, strings.Repeat("m", 64)+behind)
	}
	return out
}

// first is the first 64 bytes of a nonce.
func first(n string) string {
	if len(n) > 64 {
		return n[:64]
	}
	return n
}

func TestNonces(t *testing.T) {
	v := fresh(t, ofAll())
	for _, h := range tokens() {
		for _, n := range nonces() {
			s := newShake(t, v)
			hears(t, s, h.hello(), 0, n, nonce(first(n)))
			waits(t, s)
			hears(t, s, proof(h.proves(first(n))), -1, "other", welcome())
			known(t, s, h.tenant)
		}
	}
}

// What is behind MaxWord bytes was not said: what proves that too proves nothing.
func TestProofsOfNoncesThatWereCutOtherwise(t *testing.T) {
	v := fresh(t, ofAll())
	for _, n := range nonces() {
		others := []string{n + "n", n + "\x00", "n" + n, strings.Repeat("n", 63), strings.Repeat("n", 65)}
		if len(n) > 0 {
			others = append(others, n, n[1:], n[:len(n)-1], first(n)[:len(first(n))-1])
		}
		for _, other := range others {
			if first(n) == other {
				continue
			}
			s := newShake(t, v)
			hears(t, s, ann().hello(), 0, n, nonce(first(n)))
			hears(t, s, proof(ann().proves(other)), 0, n, refuse(api.ErrProof))
			lost(t, s)
		}
	}
}

// Which nonce there is with the Proof is of no matter: the one that was said is asked for.
func TestNonceIsThatOfTheHello(t *testing.T) {
	v := fresh(t, ofAll())
	for _, later := range nonces() {
		s := given(t, v, ann(), "first")
		hears(t, s, proof(ann().proves("first")), 0, later, welcome())
		known(t, s, "ann")
		s = given(t, v, ann(), "first")
		hears(t, s, proof(ann().proves(first(later))), 0, later, refuse(api.ErrProof))
		lost(t, s)
	}
}

// P12.1, P12.2: the time is that of the proof.

func TestUntil(t *testing.T) {
	v := fresh(t, ofAll())
	for _, h := range tokens() {
		for _, early := range times(h.token.Until) {
			for _, now := range times(h.token.Until) {
				s := newShake(t, v)
				hears(t, s, h.hello(), early, "n", nonce("n"))
				waits(t, s)
				if now < h.token.Until {
					hears(t, s, proof(h.proves("n")), now, "n", welcome())
					known(t, s, h.tenant)
				} else {
					hears(t, s, proof(h.proves("n")), now, "n", refuse(api.ErrNone))
					lost(t, s)
				}
			}
		}
	}
}

// P12.2, T4: what is revoked proves nothing any more, whenever that was.

func TestRevoked(t *testing.T) {
	for _, h := range tokens() {
		revoke := func(v *vault.Vault) {
			if !v.Revoke(h.tenant, h.token.Name) {
				t.Errorf("%s can't be revoked", quoted(h))
			}
		}
		for when, want := range []api.Msg{refuse(api.ErrNone), refuse(api.ErrNone), refuse(api.ErrNone), welcome()} {
			v := fresh(t, ofAll())
			if when == 0 {
				revoke(v)
			}
			s := newShake(t, v)
			if when == 1 {
				revoke(v)
			}
			hears(t, s, h.hello(), -1, "n", nonce("n"))
			if when == 2 {
				revoke(v)
			}
			waits(t, s)
			hears(t, s, proof(h.proves("n")), -1, "n", want)
			if when < 3 {
				lost(t, s)
				continue
			}
			revoke(v) // who is known stays so: it is the broker that closes such
			known(t, s, h.tenant)
		}
	}
}

func TestRevokedIsAnotherOne(t *testing.T) {
	for _, h := range tokens() {
		v := fresh(t, ofAll())
		begun := map[held]*shake.Shake{}
		for _, other := range tokens() {
			begun[other] = given(t, v, other, "n")
		}
		v.Revoke(h.tenant, h.token.Name)
		for other, s := range begun {
			if other == h {
				hears(t, s, proof(other.proves("n")), -1, "n", refuse(api.ErrNone))
				lost(t, s)
				continue
			}
			hears(t, s, proof(other.proves("n")), -1, "n", welcome())
			known(t, s, other.tenant)
		}
	}
}

// That there is no such token is told ahead of a proof that is none.
func TestErrNoneIsFirst(t *testing.T) {
	v := fresh(t, ofAll())
	v.Revoke("bob", "k")
	for _, x := range []struct {
		tenant, token string
		now           int64
	}{{"ann", "k", 5}, {"ann", "k", math.MaxInt64}, {"bob", "k", 0}, {"bob", "k", 9}, {"eve", "k", 0}, {"ann", "m", 0}, {"ab", "a", 0}} {
		for _, p := range []string{"", "wrong", proved("s", x.tenant, x.token, "m")} {
			s := newShake(t, v)
			hears(t, s, hello(x.tenant, x.token), 0, "n", nonce("n"))
			hears(t, s, proof(p), x.now, "n", refuse(api.ErrNone))
			lost(t, s)
		}
	}
}

// P12.1, L2: what is neither.

func TestOtherKindsAtFirst(t *testing.T) {
	v := fresh(t, ofAll())
	for _, k := range kinds() {
		if k == 1 {
			continue
		}
		for _, m := range []api.Msg{{Kind: k}, {Kind: k, A: "ann", B: "k"}, {Kind: k, A: proved("s", "ann", "k", "n"), N: 1, M: 1}, {Kind: k, A: proved("s", "", "", "")}} {
			s := newShake(t, v)
			hears(t, s, m, 0, "n", refuse(api.ErrArg))
			lost(t, s)
			silent(t, s)
			lost(t, s)
		}
	}
}

func TestOtherKindsInsteadOfAProof(t *testing.T) {
	v := fresh(t, ofAll())
	for _, h := range tokens() {
		for _, k := range kinds() {
			if k == 3 {
				continue
			}
			for _, m := range []api.Msg{{Kind: k}, {Kind: k, A: h.tenant, B: h.token.Name}, {Kind: k, A: h.proves("n")}, {Kind: k, A: h.proves("n"), B: h.proves("n"), N: 3, M: 3}} {
				s := given(t, v, h, "n")
				hears(t, s, m, -1, "n", refuse(api.ErrArg))
				lost(t, s)
				ignores(t, s, proof(h.proves("n")))
				lost(t, s)
			}
		}
	}
}

// It is ErrArg whether the token is good or not.
func TestSecondHello(t *testing.T) {
	v := fresh(t, ofAll())
	for _, x := range append(strangers(), [2]string{"ann", "k"}, [2]string{"ab", "a"}) {
		for _, y := range [][2]string{x, {"ann", "k"}, {"bob", "k"}, {"eve", "k"}} {
			s := newShake(t, v)
			hears(t, s, hello(x[0], x[1]), 0, "n", nonce("n"))
			hears(t, s, hello(y[0], y[1]), 0, "n", refuse(api.ErrArg))
			lost(t, s)
			for _, z := range [][2]string{x, y} {
				ignores(t, s, proof(proved("s", z[0], z[1], "n")))
				lost(t, s)
			}
		}
	}
}

// wrongs are what is not quite that proof.
func wrongs(p string) []string {
	out := []string{"", " ", "0", "\x00", "n", strings.Repeat("0", 64), p + "0", p + " ", p + "\x00", " " + p, p + p, strings.Repeat("f", 1<<12)}
	for i := range p {
		out = append(out, p[:i], p[i+1:], p[:i]+string(p[i]^1)+p[i+1:], p[:i]+"\x00"+p[i+1:])
	}
	raw, _ := hex.DecodeString(p)
	out = append(out, strings.ToUpper(p), string(raw))
	return slices.DeleteFunc(out, func(s string) bool { return s == p })
}

func TestWrongProofs(t *testing.T) {
	v := fresh(t, ofAll())
	for _, h := range tokens() {
		if h.token.Until == 0 {
			continue
		}
		for _, n := range []string{"", "n", strings.Repeat("n", 64)} {
			for _, p := range wrongs(h.proves(n)) {
				s := given(t, v, h, n)
				hears(t, s, proof(p), 0, n, refuse(api.ErrProof))
				lost(t, s)
				ignores(t, s, proof(h.proves(n))) // there is one try
				lost(t, s)
			}
		}
	}
}

// P12.2: a proof is that of one's own token, and nonce.

func TestProofsOfOthers(t *testing.T) {
	v := fresh(t, ofAll())
	for _, h := range tokens() {
		for _, n := range []string{"", "n", "m", "nn", "\x01n"} {
			for _, other := range tokens() {
				for _, m := range []string{"", "n", "m", "nn", "\x01n"} {
					s := given(t, v, h, n)
					if other == h && m == n {
						hears(t, s, proof(other.proves(m)), -1, n, welcome())
						known(t, s, h.tenant)
						continue
					}
					hears(t, s, proof(other.proves(m)), -1, n, refuse(api.ErrProof))
					lost(t, s)
				}
			}
		}
	}
}

// P12.3: what is over stays so, and says nothing.

// ignores holds that nothing is said to a message, at any time.
func ignores(t *testing.T, s *shake.Shake, m api.Msg) {
	t.Helper()
	for _, now := range []int64{math.MinInt64, -1, 0, 4, math.MaxInt64} {
		for _, n := range []string{"n", "", strings.Repeat("n", 70)} {
			if said, is := s.Hear(m, now, n); said != (api.Msg{}) || is {
				t.Fatalf("to %s at %d, with %.70q: %s, %t", quoted(m), now, n, quoted(said), is)
			}
		}
	}
}

// silent holds that nothing is said to anything.
func silent(t *testing.T, s *shake.Shake) {
	t.Helper()
	for _, k := range kinds() {
		ignores(t, s, api.Msg{Kind: k})
		ignores(t, s, api.Msg{Kind: k, A: "bob", B: "k", N: 1, M: 1})
		ignores(t, s, api.Msg{Kind: k, A: proved("s", "ann", "k", "n")})
		ignores(t, s, api.Msg{Kind: k, A: proved("s", "bob", "k", "n")})
	}
	ignores(t, s, hello("bob", "k")) // and once more, in order
	ignores(t, s, proof(proved("s", "bob", "k", "n")))
}

func TestKnownStaysSo(t *testing.T) {
	v := fresh(t, ofAll())
	for _, h := range tokens() {
		s := given(t, v, h, "n")
		hears(t, s, proof(h.proves("n")), -1, "n", welcome())
		for range 2 {
			silent(t, s)
			known(t, s, h.tenant)
		}
	}
}

func TestRefusedStaysSo(t *testing.T) {
	v := fresh(t, ofAll())
	for _, x := range []struct {
		heard []api.Msg
		now   int64
		want  api.Errno
	}{
		{[]api.Msg{proof(proved("s", "ann", "k", "n"))}, 4, api.ErrArg}, // the chapter's example
		{[]api.Msg{hello("ann", "k"), hello("ann", "k")}, 4, api.ErrArg},
		{[]api.Msg{hello("ann", "k"), proof("wrong")}, 4, api.ErrProof},
		{[]api.Msg{hello("ann", "k"), proof(proved("s", "ann", "k", "n"))}, 5, api.ErrNone},
		{[]api.Msg{hello("eve", "k"), proof(proved("s", "eve", "k", "n"))}, 4, api.ErrNone},
	} {
		s := newShake(t, v)
		for i, m := range x.heard {
			want := nonce("n")
			if i == len(x.heard)-1 {
				want = refuse(x.want)
			}
			hears(t, s, m, x.now, "n", want)
		}
		for range 2 {
			silent(t, s)
			lost(t, s)
		}
	}
}

// P12.3: two that have one vault know nothing of one another.

func TestNonceIsNobodyElses(t *testing.T) {
	v := fresh(t, ofAll())
	for _, h := range tokens() {
		one, other := given(t, v, h, "one"), given(t, v, h, "other")
		hears(t, other, proof(h.proves("one")), -1, "one", refuse(api.ErrProof))
		lost(t, other)
		waits(t, one)
		hears(t, one, proof(h.proves("one")), -1, "other", welcome())
		known(t, one, h.tenant)
		lost(t, other)
		late := newShake(t, v) // nobody is known here, whoever was with that vault
		hears(t, late, proof(h.proves("one")), -1, "one", refuse(api.ErrArg))
		lost(t, late)
		known(t, one, h.tenant)
	}
}

func TestShakesAreApart(t *testing.T) {
	v := fresh(t, ofAll())
	all := tokens()
	s := make([]*shake.Shake, len(all))
	for i := range all {
		s[i] = newShake(t, v)
	}
	for i, h := range all { // each has a nonce of its own
		n := "n" + strings.Repeat("m", i)
		hears(t, s[i], h.hello(), 0, n, nonce(n))
		for k := range all {
			waits(t, s[k])
		}
	}
	for i, h := range all {
		if i%2 == 0 {
			hears(t, s[i], proof(h.proves("n"+strings.Repeat("m", i))), -1, "n", welcome())
		} else {
			hears(t, s[i], proof(h.proves("n"+strings.Repeat("m", i-1))), -1, "n", refuse(api.ErrProof))
		}
		for k, other := range all {
			switch {
			case k > i:
				waits(t, s[k])
			case k%2 == 0:
				known(t, s[k], other.tenant)
			default:
				lost(t, s[k])
			}
		}
	}
}

// A vault is not changed by those that shake hands with it.
func TestVaultIsNotChanged(t *testing.T) {
	v := fresh(t, ofAll())
	for range 3 {
		for _, h := range tokens() {
			for _, p := range []string{h.proves("n"), "wrong"} {
				s := given(t, v, h, "n")
				s.Hear(proof(p), -1, "n")
				s = given(t, v, h, "n")
				s.Hear(proof(p), h.token.Until, "n")
			}
			if !v.Good(h.tenant, h.token.Name, h.token.Until-1) || v.Good(h.tenant, h.token.Name, h.token.Until) || v.Check(h.tenant, h.token.Name, "n", h.proves("n"), -1) != api.OK {
				t.Errorf("%s is another one", quoted(h))
			}
		}
	}
	for _, h := range tokens() {
		if !v.Revoke(h.tenant, h.token.Name) {
			t.Errorf("%s was revoked already", quoted(h))
		}
	}
}

// Two vaults of one configuration are two: it is one's own that is asked.
func TestVaultIsOnesOwn(t *testing.T) {
	v, other := fresh(t, ofAll()), fresh(t, ofAll())
	s := given(t, v, ann(), "n")
	later := given(t, other, ann(), "n")
	v.Revoke("ann", "k")
	hears(t, s, proof(proved("s", "ann", "k", "n")), 0, "n", refuse(api.ErrNone))
	hears(t, later, proof(proved("s", "ann", "k", "n")), 0, "n", welcome())
}

// P3: what is handed in is not kept. A text whose bytes change behind the call shows whether it is.
func TestTextsAreNotKept(t *testing.T) {
	for _, n := range []string{"n", strings.Repeat("n", 64), strings.Repeat("n", 65)} {
		tenant, token, drawn := []byte("ann"), []byte("k"), []byte(n)
		proven := []byte(proved("s", "ann", "k", first(n)))
		text := func(b []byte) string { return unsafe.String(&b[0], len(b)) }
		s := newShake(t, fresh(t, ofAll()))
		said, is := s.Hear(hello(text(tenant), text(token)), 0, text(drawn))
		copy(tenant, "eve")
		copy(token, "x")
		clear(drawn)
		if said != nonce(first(n)) || !is {
			t.Errorf("what was said is %q, when the bytes of the nonce that was handed in are others", said.A)
		}
		hears(t, s, proof(text(proven)), 0, text(drawn), welcome())
		clear(proven)
		clear(drawn)
		known(t, s, "ann")
	}
}

// P12.1 to P12.3: rows of calls, held against a model.

// model is a shake, by the chapter's words.
type model struct {
	step                      string // hello, proof, known or refused
	tenant, token, nonce, who string
}

func (m *model) hear(v *vault.Vault, x api.Msg, now int64, n string) (api.Msg, bool) {
	switch {
	case m.step == "known" || m.step == "refused":
		return api.Msg{}, false
	case m.step == "hello" && x.Kind == 1:
		*m = model{step: "proof", tenant: x.A, token: x.B, nonce: first(n)}
		return nonce(m.nonce), true
	case m.step == "proof" && x.Kind == 3:
		if e := v.Check(m.tenant, m.token, m.nonce, x.A, now); e != api.OK {
			*m = model{step: "refused"}
			return refuse(e), true
		}
		*m = model{step: "known", who: m.tenant}
		return welcome(), true
	}
	*m = model{step: "refused"}
	return refuse(api.ErrArg), true
}

// like holds a shake against the model.
func (m *model) like(s *shake.Shake) bool {
	who, is := s.Who()
	return who == m.who && is == (m.step == "known") && s.Over() == (m.step == "known" || m.step == "refused")
}

// Every row of up to four messages, out of all that makes a difference.
func TestAllShortRows(t *testing.T) {
	v := fresh(t, ofAll())
	some := []api.Msg{{}, hello("ann", "k"), hello("bob", "k"), hello("eve", "k"), proof(proved("s", "ann", "k", "n")), proof(proved("s", "bob", "k", "n")), proof("wrong"), welcome(), {Kind: api.Claim, A: "web", N: 9}}
	var all func(row []api.Msg)
	all = func(row []api.Msg) {
		s, m := shake.New(v), model{step: "hello"}
		for i, x := range row {
			said, is := s.Hear(x, 4, "n")
			if want, should := m.hear(v, x, 4, "n"); said != want || is != should || !m.like(s) {
				t.Fatalf("%v: at %d %v, %t, not %v, %t", row, i, said, is, want, should)
			}
		}
		if len(row) == 4 {
			return
		}
		for _, x := range some {
			all(append(slices.Clone(row), x))
		}
	}
	all(nil)
}

// Many that shake hands with one vault, in any order, while tokens are revoked.
func TestRowsOfCalls(t *testing.T) {
	seed := uint64(1)
	below := func(n int) int {
		seed = seed*6364136223846793005 + 1442695040888963407
		return int(seed >> 33 % uint64(n))
	}
	all := tokens()
	for range 200 {
		v := fresh(t, ofAll())
		shakes, models := make([]*shake.Shake, 4), make([]model, 4)
		for i := range shakes {
			shakes[i], models[i] = shake.New(v), model{step: "hello"}
		}
		for range 30 {
			h, now, n := all[below(len(all))], int64(below(12)-1), nonces()[below(len(nonces()))]
			if below(8) == 0 {
				v.Revoke(h.tenant, h.token.Name)
			}
			i := below(len(shakes))
			x := h.hello()
			switch below(8) {
			case 0:
				x = api.Msg{Kind: below(15), A: h.tenant}
			case 1:
				x = proof(h.proves(first(n)))
			case 2:
				x = proof(v.Want(models[below(4)].tenant, models[i].token, models[below(4)].nonce))
			case 3, 4, 5:
				x = proof(v.Want(models[i].tenant, models[i].token, models[i].nonce))
			}
			said, is := shakes[i].Hear(x, now, n)
			if want, should := models[i].hear(v, x, now, n); said != want || is != should {
				t.Fatalf("to %s at %d, with %.70q: %s, %t, not %s, %t", quoted(x), now, n, quoted(said), is, quoted(want), should)
			}
			for k := range shakes {
				if !models[k].like(shakes[k]) {
					t.Fatalf("behind %s, for %d, that of %d is another one", quoted(x), i, k)
				}
			}
			if models[i].step == "known" || models[i].step == "refused" && below(2) == 0 {
				shakes[i], models[i] = shake.New(v), model{step: "hello"}
			}
		}
	}
}
