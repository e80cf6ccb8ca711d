package vault_test

import (
	"crypto/hmac"
	"crypto/sha256"
	"encoding/hex"
	"fmt"
	"math"
	"reflect"
	"slices"
	"strings"
	"testing"

	"subway/api"
	"subway/vault"
)

const (
	mostNum  = 1 << 40
	mostTime = 1 << 30
)

// ofAll is a configuration with names that are alike: joined, or cut elsewhere, some are the same.
func ofAll() api.Config {
	return api.Config{Wait: 4, Grace: 3, Idle: 2, Lease: 1, Tenants: []api.Tenant{
		{Name: "a", Names: 1, Visitors: 2, Nets: []api.Net{{Addr: 10 << 24, Bits: 8}}, Tokens: []api.Token{{Name: "a", Secret: "s", Until: 5}, {Name: "b", Secret: "s", Until: 6}, {Name: "b-c", Secret: "s", Until: 7}, {Name: "bc", Secret: "s", Until: 8}}},
		{Name: "a-b", Tokens: []api.Token{{Name: "c", Secret: "s", Until: 9}}},
		{Name: "ab", Visitors: 8, Tokens: []api.Token{{Name: "a", Secret: "t", Until: 0}, {Name: "c", Secret: "s", Until: 1}}},
		{Name: "ann", Nets: []api.Net{{}}, Tokens: []api.Token{{Name: "k", Secret: "s", Until: 5}, {Name: "l", Secret: "s", Until: mostNum}}},
		{Name: "b", Tokens: []api.Token{{Name: "a", Secret: "s", Until: 5}, {Name: "b", Secret: strings.Repeat("\x00", 32), Until: 10}}},
		{Name: "bob", Tokens: []api.Token{{Name: "k", Secret: "s", Until: 9}, {Name: "m", Secret: "\xff\x00 \n", Until: mostTime}}},
		{Name: "none", Names: 8, Visitors: 8},
		{Name: "z", Tokens: []api.Token{{Name: "z", Secret: "\x00", Until: mostNum - 1}}},
	}}
}

// held is a token, with its tenant's name.
type held struct {
	tenant string
	token  api.Token
}

// tokens are all of a configuration.
func tokens(c api.Config) []held {
	var out []held
	for _, t := range c.Tenants {
		for _, k := range t.Tokens {
			out = append(out, held{t.Name, k})
		}
	}
	return out
}

// strange are names of which no tenant of ofAll is one, nor has a token.
func strange() []string {
	return []string{"", " ", "A", "a ", " a", "a\x00", "\x00", "an", "annn", "ANN", "aa", "abc", "a-", "-a", "a-b-c", "ann k", "annk", "none-", "eve", "\xff", strings.Repeat("a", 20), strings.Repeat("a", 256), strings.Repeat("k", 1<<16)}
}

// proved is the proof of words under a secret, by the library's means: HMAC of texts that begin with how long they are.
func proved(secret string, words ...string) string {
	h := hmac.New(sha256.New, []byte(secret))
	for _, w := range words {
		if len(w) > 255 {
			return ""
		}
		h.Write([]byte{byte(len(w))})
		h.Write([]byte(w))
	}
	return hex.EncodeToString(h.Sum(nil))
}

// fresh is a vault of a configuration that is right.
func fresh(t *testing.T, c api.Config) *vault.Vault {
	t.Helper()
	v := vault.New(c)
	if v == nil {
		t.Fatalf("there is no vault of %v", c)
	}
	return v
}

// P10.1, J1: of what there is a vault.

func TestNoVaultOfWhatIsNotRight(t *testing.T) {
	for what, spoil := range map[string]func(c *api.Config){
		"no time to wait":          func(c *api.Config) { c.Wait = 0 },
		"no grace":                 func(c *api.Config) { c.Grace = 0 },
		"idle below 0":             func(c *api.Config) { c.Idle = -1 },
		"a lease that is too long": func(c *api.Config) { c.Lease = mostTime + 1 },
		"too many tenants":         func(c *api.Config) { c.Tenants = append(c.Tenants, api.Tenant{Name: "zz"}) },
		"a tenant twice":           func(c *api.Config) { c.Tenants[1].Name = "a" },
		"tenants that fall":        func(c *api.Config) { slices.Reverse(c.Tenants) },
		"a tenant without a name":  func(c *api.Config) { c.Tenants[0].Name = "" },
		"more names than may be":   func(c *api.Config) { c.Tenants[2].Names = 9 },
		"visitors below 0":         func(c *api.Config) { c.Tenants[2].Visitors = -1 },
		"a net that is none":       func(c *api.Config) { c.Tenants[3].Nets[0] = api.Net{Addr: 1, Bits: 31} },
		"too many nets":            func(c *api.Config) { c.Tenants[3].Nets = make([]api.Net, 5) },
		"a token twice":            func(c *api.Config) { c.Tenants[0].Tokens[1].Name = "a" },
		"too many tokens": func(c *api.Config) {
			c.Tenants[0].Tokens = append(c.Tenants[0].Tokens, api.Token{Name: "c", Secret: "s"})
		},
		"a token that is no name":   func(c *api.Config) { c.Tenants[7].Tokens[0].Name = "Z" },
		"a token without a secret":  func(c *api.Config) { c.Tenants[7].Tokens[0].Secret = "" },
		"a secret that is too long": func(c *api.Config) { c.Tenants[7].Tokens[0].Secret = strings.Repeat("s", 33) },
		"until below 0":             func(c *api.Config) { c.Tenants[7].Tokens[0].Until = -1 },
		"until too late":            func(c *api.Config) { c.Tenants[7].Tokens[0].Until = mostNum + 1 },
		"nothing":                   func(c *api.Config) { *c = api.Config{} },
	} {
		c := ofAll()
		if vault.New(c) == nil {
			t.Fatal("there is no vault of what is right")
		}
		if spoil(&c); vault.New(c) != nil {
			t.Errorf("%s: there is a vault of it", what)
		}
	}
}

func TestVaultWithoutTokens(t *testing.T) {
	for _, tenants := range [][]api.Tenant{nil, {}, {{Name: "ann"}}, {{Name: "ann", Tokens: []api.Token{}}}} {
		v := fresh(t, api.Config{Wait: 1, Grace: 1, Idle: 1, Lease: 1, Tenants: tenants})
		for _, s := range append(strange(), "ann", "k") {
			lacks(t, v, "ann", s)
			lacks(t, v, s, "k")
		}
	}
}

func TestNothingIsRevokedAtFirst(t *testing.T) {
	v := fresh(t, ofAll())
	for _, h := range tokens(ofAll()) {
		if !v.Good(h.tenant, h.token.Name, h.token.Until-1) {
			t.Errorf("%v is not good", h)
		}
	}
}

// lacks holds that there is no such token.
func lacks(t *testing.T, v *vault.Vault, tenant, token string) {
	t.Helper()
	if v.Revoke(tenant, token) {
		t.Errorf("%.30q of %.30q can be revoked", token, tenant)
	}
	for _, now := range []int64{math.MinInt64, -1, 0, 4, mostNum, math.MaxInt64} {
		if v.Good(tenant, token, now) {
			t.Errorf("%.30q of %.30q is good at %d", token, tenant, now)
		}
		for _, proof := range []string{"", proved("s", tenant, token, "n"), proved("", tenant, token, "n")} {
			if e := v.Check(tenant, token, "n", proof, now); e != api.ErrNone {
				t.Errorf("%.30q of %.30q: Check at %d is %d", token, tenant, now, e)
			}
		}
	}
	if s := v.Want(tenant, token, "n"); s != "" {
		t.Errorf("%.30q of %.30q proves %s", token, tenant, s)
	}
}

func TestTokensThatNobodyHas(t *testing.T) {
	v := fresh(t, ofAll())
	for _, h := range tokens(ofAll()) {
		for _, s := range strange() {
			lacks(t, v, s, h.token.Name)
			lacks(t, v, h.tenant, s)
			lacks(t, v, s, s)
		}
	}
	for _, x := range [][2]string{{"a", "c"}, {"a", "k"}, {"a-b", "a"}, {"ab", "k"}, {"ab", "b"}, {"ann", "m"}, {"ann", "a"}, {"bob", "l"}, {"none", "k"}, {"z", "a"}, {"k", "ann"}, {"ann", "ann"}, {"k", "k"}} { // another one's, or turned round
		lacks(t, v, x[0], x[1])
	}
	if want := newModel(ofAll()); !want.like(t, v) {
		t.Error("what is no token was revoked, and something is another one")
	}
}

// P10.1, J2: until when a token is good.

func TestGoodUntil(t *testing.T) {
	v := fresh(t, ofAll())
	for _, h := range tokens(ofAll()) {
		for _, now := range []int64{math.MinInt64, math.MinInt64 + 1, -mostNum, -1, 0, 1, 2, 4, 5, 6, h.token.Until - 2, h.token.Until - 1, h.token.Until, h.token.Until + 1, 1 << 32, mostNum - 1, mostNum, mostNum + 1, math.MaxInt64 - 1, math.MaxInt64} {
			if is := v.Good(h.tenant, h.token.Name, now); is != (now < h.token.Until) {
				t.Errorf("%v at %d: %t", h, now, is)
			}
		}
	}
	if v.Good("ann", "k", 5) || !v.Good("ann", "k", 4) { // the chapter's example
		t.Error("until 5, it is good at 5, or not at 4")
	}
	if v.Good("ab", "a", 0) {
		t.Error("until 0, it is good at 0")
	}
}

// A time that is asked of is not kept: what is told of an earlier one hangs on it alone.
func TestGoodHangsOnTheTimeAlone(t *testing.T) {
	v := fresh(t, ofAll())
	for range 3 {
		for _, now := range []int64{4, 5, math.MaxInt64, 4, math.MinInt64, 5, 0} {
			if v.Good("ann", "k", now) != (now < 5) {
				t.Errorf("at %d: %t", now, now >= 5)
			}
		}
	}
}

// P10.1, J2: what a token proves.

// nonces are those of all lengths about where a text ends, and with strange bytes.
func nonces() []string {
	out := []string{"", "n", "m", "nn", "\x00", "\x01n", "\xff", "é", "a b\n", "ann"}
	for _, many := range []int{2, 31, 63, 64, 65, 127, 128, 200, 254, 255, 256, 257, 300, 512, 1 << 16} {
		out = append(out, strings.Repeat("n", many), strings.Repeat("\x00", many))
	}
	return out
}

func TestWant(t *testing.T) {
	v := fresh(t, ofAll())
	for _, h := range tokens(ofAll()) {
		for _, n := range nonces() {
			want := proved(h.token.Secret, h.tenant, h.token.Name, n)
			if len(n) > 255 != (want == "") {
				t.Fatal("the test itself is wrong")
			}
			if s := v.Want(h.tenant, h.token.Name, n); s != want {
				t.Errorf("%v proves %q of %.30q, not %q", h, s, n, want)
			}
		}
	}
}

func TestLongestNamesAndSecret(t *testing.T) {
	tenant, token, secret := strings.Repeat("t", 20), strings.Repeat("k", 20), strings.Repeat("\xa0", 32)
	v := fresh(t, api.Config{Wait: 1, Grace: 1, Idle: 1, Lease: 1, Tenants: []api.Tenant{{Name: tenant, Tokens: []api.Token{{Name: token, Secret: secret, Until: 1}}}}})
	for _, n := range nonces() {
		want := proved(secret, tenant, token, n)
		if s := v.Want(tenant, token, n); s != want {
			t.Errorf("it proves %q of %.30q, not %q", s, n, want)
		}
		e := v.Check(tenant, token, n, want, 0)
		if len(n) > 255 && e != api.ErrProof || len(n) <= 255 && e != api.OK {
			t.Errorf("of %.30q: %d", n, e)
		}
	}
}

// A token has its proof, whether it is good or not: J2 asks no time, and only that the tenant has it.
func TestWantOfWhatIsNotGood(t *testing.T) {
	v := fresh(t, ofAll())
	for _, h := range tokens(ofAll()) {
		v.Revoke(h.tenant, h.token.Name)
		if s := v.Want(h.tenant, h.token.Name, "n"); s != proved(h.token.Secret, h.tenant, h.token.Name, "n") {
			t.Errorf("%v proves %q, when it was revoked", h, s)
		}
	}
}

// P10.1, J3: what is checked.

func TestCheck(t *testing.T) {
	v := fresh(t, ofAll())
	for _, h := range tokens(ofAll()) {
		for _, n := range nonces() {
			p := proved(h.token.Secret, h.tenant, h.token.Name, n)
			checks := map[string]api.Errno{p: api.OK}
			for _, other := range wrongs(p) {
				checks[other] = api.ErrProof
			}
			if len(n) > 255 {
				checks[""] = api.ErrProof // as Want is
			}
			for proof, want := range checks {
				for _, now := range []int64{math.MinInt64, -1, h.token.Until - 1, h.token.Until, h.token.Until + 1, math.MaxInt64} {
					want := want
					if now >= h.token.Until {
						want = api.ErrNone // that is asked first
					}
					if e := v.Check(h.tenant, h.token.Name, n, proof, now); e != want {
						t.Fatalf("%v of %.30q, with %.70q at %d: %d, not %d", h, n, proof, now, e, want)
					}
				}
			}
		}
	}
}

// wrongs are what is not quite that proof.
func wrongs(p string) []string {
	out := []string{"", " ", "0", "\x00", strings.Repeat("0", 64), p + "0", p + " ", p + "\x00", " " + p, p + p + "0", strings.Repeat("f", 1<<12)}
	for i := range p {
		out = append(out, p[:i], p[i+1:]+"g", p[:i]+string(p[i]^1)+p[i+1:])
	}
	if upper := strings.ToUpper(p); upper != p {
		out = append(out, upper)
	}
	if raw, _ := hex.DecodeString(p); len(raw) > 0 {
		out = append(out, string(raw))
	}
	return slices.DeleteFunc(out, func(s string) bool { return s == p })
}

func TestCheckNamesErrNoneFirst(t *testing.T) {
	v := fresh(t, ofAll())
	v.Revoke("bob", "k")
	long := strings.Repeat("n", 256)
	for _, x := range []struct {
		tenant, token, nonce, proof string
		now                         int64
	}{
		{"ann", "k", "n", "wrong", 5}, {"ann", "k", long, "", 5}, {"ann", "k", "n", "", 5},
		{"bob", "k", "n", "wrong", 0}, {"bob", "k", long, "", 0}, {"bob", "k", "n", proved("s", "bob", "k", "n"), 0},
		{"cid", "k", "n", "wrong", 0}, {"cid", "k", long, "", 0}, {"ann", "m", "n", "", 0}, {"", "", "", "", 0},
	} {
		if e := v.Check(x.tenant, x.token, x.nonce, x.proof, x.now); e != api.ErrNone {
			t.Errorf("%.60v: %d", x, e)
		}
	}
}

// A proof can be shown as often as one likes: a vault does not know which nonces were given.
func TestCheckSpendsNothing(t *testing.T) {
	v := fresh(t, ofAll())
	for range 3 {
		if e := v.Check("ann", "k", "n", proved("s", "ann", "k", "n"), 4); e != api.OK {
			t.Error(e)
		}
		if e := v.Check("ann", "k", "n", "wrong", 4); e != api.ErrProof {
			t.Error(e)
		}
		if e := v.Check("ann", "k", "n", proved("s", "ann", "k", "n"), 5); e != api.ErrNone {
			t.Error(e)
		}
	}
}

// P10.2: what is revoked is none for good, and nothing else is touched.

// model is a vault, by the chapter's words.
type model struct {
	all  []held
	none map[string]int
}

func newModel(c api.Config) model {
	return model{tokens(c), map[string]int{}}
}

func (m model) find(tenant, token string) (held, bool) {
	for _, h := range m.all {
		if h.tenant == tenant && h.token.Name == token {
			return h, true
		}
	}
	return held{}, false
}

func (m model) good(tenant, token string, now int64) bool {
	h, is := m.find(tenant, token)
	return is && m.none[tenant+" "+token] == 0 && now < h.token.Until
}

func (m model) revoke(tenant, token string) bool {
	_, is := m.find(tenant, token)
	if is {
		m.none[tenant+" "+token]++
	}
	return is && m.none[tenant+" "+token] == 1
}

func (m model) want(tenant, token, nonce string) string {
	h, is := m.find(tenant, token)
	if !is {
		return ""
	}
	return proved(h.token.Secret, tenant, token, nonce)
}

func (m model) check(tenant, token, nonce, proof string, now int64) api.Errno {
	if !m.good(tenant, token, now) {
		return api.ErrNone
	}
	if want := m.want(tenant, token, nonce); want == "" || proof != want {
		return api.ErrProof
	}
	return api.OK
}

// like holds a vault against the model, at all tokens.
func (m model) like(t *testing.T, v *vault.Vault) bool {
	t.Helper()
	same := true
	for _, h := range m.all {
		tenant, token := h.tenant, h.token.Name
		p := proved(h.token.Secret, tenant, token, "n")
		for _, now := range []int64{-1, 0, h.token.Until - 1, h.token.Until} {
			same = same && v.Good(tenant, token, now) == m.good(tenant, token, now) && v.Check(tenant, token, "n", p, now) == m.check(tenant, token, "n", p, now)
		}
		same = same && v.Want(tenant, token, "n") == p
	}
	return same
}

func TestRevokeTouchesThatTokenAlone(t *testing.T) {
	for _, h := range tokens(ofAll()) {
		v, m := fresh(t, ofAll()), newModel(ofAll())
		if !v.Revoke(h.tenant, h.token.Name) || !m.revoke(h.tenant, h.token.Name) {
			t.Errorf("%v can't be revoked", h)
		}
		if !m.like(t, v) {
			t.Errorf("when %v was revoked, something is another one", h)
		}
		for range 3 {
			if v.Revoke(h.tenant, h.token.Name) {
				t.Errorf("%v can be revoked again", h)
			}
			if !m.like(t, v) {
				t.Errorf("when %v was revoked again, something is another one", h)
			}
		}
		for _, now := range []int64{math.MinInt64, -1, 0, h.token.Until - 1, h.token.Until, math.MaxInt64} {
			if v.Good(h.tenant, h.token.Name, now) {
				t.Errorf("%v is good at %d, and was revoked", h, now)
			}
		}
	}
}

// Revoke asks no time: a token that is past its own can be revoked, once.
func TestRevokeOfWhatIsPastItsTime(t *testing.T) {
	v := fresh(t, ofAll())
	if v.Good("ab", "a", 0) || !v.Revoke("ab", "a") || v.Revoke("ab", "a") || v.Good("ab", "a", -1) {
		t.Error("until 0, it was good, or is not revoked once")
	}
}

func TestRevokeOfAll(t *testing.T) {
	v, m := fresh(t, ofAll()), newModel(ofAll())
	for _, h := range tokens(ofAll()) {
		if !v.Revoke(h.tenant, h.token.Name) || !m.revoke(h.tenant, h.token.Name) || !m.like(t, v) {
			t.Errorf("%v", h)
		}
	}
	for _, h := range tokens(ofAll()) {
		if v.Good(h.tenant, h.token.Name, math.MinInt64) || v.Revoke(h.tenant, h.token.Name) {
			t.Errorf("%v is there again", h)
		}
	}
}

// Two vaults of one configuration know nothing of one another.
func TestVaultsAreApart(t *testing.T) {
	c := ofAll()
	v, other := fresh(t, c), fresh(t, c)
	v.Revoke("ann", "k")
	if !other.Good("ann", "k", 4) || v.Good("ann", "k", 4) || !other.Revoke("ann", "k") {
		t.Error("what is revoked in one is in the other")
	}
	if again := fresh(t, c); !again.Good("ann", "k", 4) {
		t.Error("what is revoked in one is in one that comes behind")
	}
}

func TestRowsOfCalls(t *testing.T) {
	seed := uint64(1)
	below := func(n int) int {
		seed = seed*6364136223846793005 + 1442695040888963407
		return int(seed >> 33 % uint64(n))
	}
	names := []string{"a", "b", "ab", "a-b", "bc", "b-c", "c", "ann", "bob", "k", "l", "m", "none", "z", "eve", ""}
	some := func() string { return names[below(len(names))] }
	for range 200 {
		v, m := fresh(t, ofAll()), newModel(ofAll())
		for range 60 {
			tenant, token, now := some(), some(), int64(below(12)-1)
			if h := m.all[below(len(m.all))]; below(4) > 0 {
				tenant, token = h.tenant, h.token.Name
			}
			nonce, proof := some(), ""
			switch below(4) {
			case 0:
				proof = m.want(tenant, token, some())
			case 1:
				proof = m.want(some(), some(), nonce)
			case 2:
				proof = m.want(tenant, token, nonce)
			}
			told, want := "", ""
			switch below(4) {
			case 0:
				told, want = fmt.Sprint(v.Revoke(tenant, token)), fmt.Sprint(m.revoke(tenant, token))
			case 1:
				told, want = fmt.Sprint(v.Good(tenant, token, now)), fmt.Sprint(m.good(tenant, token, now))
			case 2:
				told, want = v.Want(tenant, token, nonce), m.want(tenant, token, nonce)
			case 3:
				told, want = v.Check(tenant, token, nonce, proof, now).Error(), m.check(tenant, token, nonce, proof, now).Error()
			}
			if told != want {
				t.Fatalf("%q of %q, of %q at %d: %s, not %s", token, tenant, nonce, now, told, want)
			}
		}
		if !m.like(t, v) {
			t.Fatal("behind a row of calls, something is another one")
		}
	}
}

// P10.3: a proof is that of one tenant's token, and of one nonce.

func TestProofsAreTheirOwn(t *testing.T) {
	v := fresh(t, ofAll())
	nonces := []string{"", "n", "m", "nn", "\x01n", "a", "c"}
	seen := map[string]string{}
	for _, h := range tokens(ofAll()) {
		for _, n := range nonces {
			p := v.Want(h.tenant, h.token.Name, n)
			of := fmt.Sprintf("%q of %q, of %q", h.token.Name, h.tenant, n)
			if other, there := seen[p]; there {
				t.Errorf("%s and %s have one proof", of, other)
			}
			seen[p] = of
			for _, h2 := range tokens(ofAll()) {
				for _, n2 := range nonces {
					want := api.ErrProof
					if h2 == h && n2 == n {
						want = api.OK
					}
					if e := v.Check(h2.tenant, h2.token.Name, n2, p, -1); e != want {
						t.Errorf("what proves %s is for %q of %q, of %q: %d", of, h2.token.Name, h2.tenant, n2, e)
					}
				}
			}
		}
	}
}

func TestProofHangsOnTheSecret(t *testing.T) {
	c, other := ofAll(), ofAll()
	other.Tenants[3].Tokens[0].Secret = "r"
	v, w := fresh(t, c), fresh(t, other)
	if v.Want("ann", "k", "n") == w.Want("ann", "k", "n") || w.Check("ann", "k", "n", v.Want("ann", "k", "n"), 0) != api.ErrProof {
		t.Error("under another secret, the proof is the same")
	}
	if v.Want("ann", "l", "n") != w.Want("ann", "l", "n") {
		t.Error("another token's secret changes a proof")
	}
}

// P3: what is handed in is not changed, and not kept.

// roomy is ofAll's, with lists that have spare room, which is written over.
func roomy() api.Config {
	c := ofAll()
	c.Tenants = append(c.Tenants, api.Tenant{Name: "spare"})[:len(c.Tenants)]
	for i := range c.Tenants {
		t := &c.Tenants[i]
		t.Nets = append(t.Nets, api.Net{Addr: 7, Bits: 7})[:len(t.Nets)]
		t.Tokens = append(t.Tokens, api.Token{Name: "zz", Secret: "spare", Until: 7})[:len(t.Tokens)]
	}
	return c
}

// spread is c with its spare room in sight.
func spread(c api.Config) api.Config {
	c.Tenants = slices.Clone(c.Tenants[:cap(c.Tenants)])
	for i := range c.Tenants {
		t := &c.Tenants[i]
		t.Nets, t.Tokens = slices.Clone(t.Nets[:cap(t.Nets)]), slices.Clone(t.Tokens[:cap(t.Tokens)])
	}
	return c
}

func TestConfigurationIsNotChanged(t *testing.T) {
	c := roomy()
	before := spread(c)
	v, m := fresh(t, c), newModel(ofAll())
	for _, h := range m.all {
		v.Revoke(h.tenant, h.token.Name)
		m.revoke(h.tenant, h.token.Name)
		v.Revoke("spare", "zz")
		v.Revoke("ann", "zz")
		if !m.like(t, v) {
			t.Errorf("%v", h)
		}
	}
	if !reflect.DeepEqual(spread(c), before) {
		t.Errorf("it is %v, was %v", spread(c), before)
	}
}

func TestConfigurationIsNotKept(t *testing.T) {
	c := roomy()
	v, m := fresh(t, c), newModel(ofAll())
	for i := range c.Tenants {
		tokens := c.Tenants[i].Tokens[:cap(c.Tenants[i].Tokens)]
		for k := range tokens {
			tokens[k] = api.Token{Name: "spoiled", Secret: "spoiled", Until: mostNum}
		}
	}
	if !m.like(t, v) {
		t.Error("tokens that were handed in are kept")
	}
	for i := range c.Tenants {
		c.Tenants[i] = api.Tenant{Name: "spoiled"}
	}
	if !m.like(t, v) {
		t.Error("tenants that were handed in are kept")
	}
	for _, s := range []string{"spoiled", "zz"} {
		lacks(t, v, "ann", s)
		lacks(t, v, "spoiled", s)
	}
}
