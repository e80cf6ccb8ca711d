package ticket_test

import (
	"slices"
	"strings"
	"testing"
	"unsafe"

	"subway/api"
	"subway/ticket"
)

// passes are those of 7 visitors, of three tenants and of the empty one, in turns.
func passes() []api.Pass {
	return []api.Pass{
		{Visitor: 3, Name: "web", Tenant: "ann", Epoch: 2},
		{Visitor: 1, Name: "ftp", Tenant: "bob", Epoch: 1},
		{Visitor: 4, Name: "web", Tenant: "ann", Epoch: 2},
		{Visitor: 0, Name: "", Tenant: "", Epoch: 0},
		{Visitor: 9, Name: "web-2", Tenant: "bob", Epoch: 1 << 40},
		{Visitor: 2, Name: "ssh", Tenant: "cy", Epoch: 3},
		{Visitor: 7, Name: "web", Tenant: "ann", Epoch: 4},
	}
}

// issued is a desk at which all of passes have tickets, and those.
func issued(t *testing.T) (*desk, []string) {
	t.Helper()
	d := newDesk(t, "key")
	var texts []string
	for _, p := range passes() {
		text, e := d.issue(t, p, "drawn")
		if e != api.OK {
			t.Fatal(p, e)
		}
		texts = append(texts, text)
	}
	return d, texts
}

// full is one at which as many tickets are good as may be, of the visitors 0 to 63, of two tenants in turns; and the tickets.
func full(t *testing.T) (*desk, []string) {
	t.Helper()
	d := newDesk(t, "key")
	var texts []string
	for visitor := range most {
		text, e := d.issue(t, ours(visitor), "")
		if e != api.OK {
			t.Fatal(visitor, e)
		}
		texts = append(texts, text)
	}
	return d, texts
}

// ours is a pass of a visitor: those of ann are even.
func ours(visitor int) api.Pass {
	return api.Pass{Visitor: visitor, Name: "web", Tenant: []string{"ann", "bob"}[visitor&1], Epoch: int64(visitor) + 1}
}

// P15.1, O1.

func TestANewOne(t *testing.T) {
	for _, key := range strangeTexts() {
		d := newDesk(t, key)
		d.like(t)
		for _, text := range append(strangeTexts(), told(key, 0, ""), told(key, 1, "")) {
			for _, tenant := range []string{"", "ann", text} {
				if p, e := d.redeem(t, text, tenant); p != (api.Pass{}) || e != api.ErrSpent {
					t.Errorf("Redeem of %q by %q: %v, %d", text, tenant, p, e)
				}
			}
		}
		for _, visitor := range append(strangeIds(), 0, 1, 64) {
			if d.void(t, visitor) {
				t.Errorf("%d had one", visitor)
			}
		}
		if d.b.Many() != 0 {
			t.Error(d.b.Many())
		}
	}
}

func TestTheExample(t *testing.T) {
	d := newDesk(t, "key")
	p := passes()[0]
	text, _ := d.issue(t, p, "drawn")
	if got, e := d.redeem(t, text, "ann"); got != p || e != api.OK {
		t.Error(got, e)
	}
	if got, e := d.redeem(t, text, "ann"); got != (api.Pass{}) || e != api.ErrSpent {
		t.Error(got, e)
	}
}

// Tickets, digit by digit, as they were worked out by hand: behind so many others, each of which was redeemed or voided.
func TestTicketsDigitByDigit(t *testing.T) {
	for _, x := range []struct {
		key    string
		serial int
		drawn  string
		want   string
	}{
		{"key", 1, "drawn", "3e4d706737eaebcde5dbb50d361b420d"},
		{"key", 2, "drawn", "8628cf238de7936f7777cf341d65370f"},
		{"key", 10, "drawn", "47d6501b93c527b9e218822a68cdf8a6"},
		{"key", 1, "", "7d75b05cedadc378d98bcf78c755664e"},
		{"key", 123, "", "d1a1db92f1deb529503bf89509d04f17"},
		{"", 1, "", "2edf168ebd7d32a7a8b904281c3edaa7"},
		{"", 1, "drawn", "c205737d24f007ced6f774710873e00d"},
		{"subway", 1, "x", "0435fcdfc287674e0b9484ceed922534"},
		{strings.Repeat("k", 65), 1, "x", "6dbd19cec29b6390e878e3220386a10d"},
		{"key", 1, "\x00\xff", "e7e2d9a509c8d551d6972c515ca1dce8"},
		{"key", 1, strings.Repeat("a", 254), "6ebfd057d0d43d8b1abc309e12d06866"},
		{"key", 1, strings.Repeat("a", 255), "172755bb9bef81af6cc1cce7cc22f4a1"},
		{"key", 1, strings.Repeat("a", 256), "172755bb9bef81af6cc1cce7cc22f4a1"},
	} {
		for _, p := range append(passes(), ours(5)) { // whatever is the pass
			d := newDesk(t, x.key)
			for ahead := range x.serial - 1 {
				text, _ := d.issue(t, ours(ahead), strings.Repeat("z", ahead))
				if ahead%3 == 0 {
					d.void(t, ahead)
				} else {
					d.redeem(t, text, ours(ahead).Tenant)
				}
			}
			if text, e := d.issue(t, p, x.drawn); text != x.want || e != api.OK {
				t.Errorf("the ticket %d under %q, of %d drawn bytes: %q, %d", x.serial, x.key, len(x.drawn), text, e)
			}
		}
	}
}

// Of what is drawn the first 255 bytes go in: each of them, and none behind them; a rune may be cut.
func TestDrawn(t *testing.T) {
	first := func(drawn string) string {
		text, e := newDesk(t, "key").issue(t, ours(0), drawn)
		if e != api.OK || len(text) != digits || strings.Trim(text, "0123456789abcdef") != "" {
			t.Errorf("of %d bytes: %q, %d", len(drawn), text, e)
		}
		return text
	}
	long := strings.Repeat("é", 200) // the byte 255 is the first one of a rune
	seen := map[string]int{}
	for many := range len(long) + 1 {
		text := first(long[:many])
		if other, is := seen[text]; is && (other < mostOfD || many < mostOfD) {
			t.Errorf("%d and %d bytes make one ticket", other, many)
		}
		seen[text] = min(many, mostOfD)
	}
	if len(seen) != mostOfD+1 {
		t.Errorf("%d tickets", len(seen))
	}
	whole := first(long)
	for at := range long {
		b := []byte(long)
		b[at]++
		if same := first(string(b)) == whole; same != (at >= mostOfD) {
			t.Errorf("with another byte %d: %t", at, same)
		}
	}
	if first(strings.Repeat("n", 100000)) != first(strings.Repeat("n", mostOfD)) {
		t.Error("of many bytes more than 255 count")
	}
	for _, drawn := range strangeTexts() {
		first(drawn)
	}
}

// Each ticket is another one, though the pass and what is drawn are the same: also where a serial has more digits.
func TestSerials(t *testing.T) {
	for _, key := range []string{"key", "", "\x00k", strings.Repeat("k", 80)} {
		d, seen := newDesk(t, key), map[string]bool{}
		for serial := 1; serial <= 1100; serial++ {
			text, e := d.issue(t, ours(4), "same")
			if text != told(key, serial, "same") || e != api.OK || seen[text] {
				t.Fatalf("the ticket %d under %q: %q, %d, %t", serial, key, text, e, seen[text])
			}
			seen[text] = true
			if serial%2 == 0 {
				d.void(t, 4)
			} else {
				d.redeem(t, text, "ann")
			}
		}
	}
}

// What is refused has no serial, and so does what is redeemed or voided.
func TestWhatHasNoSerial(t *testing.T) {
	d := newDesk(t, "key")
	next := func(serial int, visitor int) string {
		t.Helper()
		text, e := d.b.Issue(ours(visitor), "d")
		if text != told("key", serial, "d") || e != api.OK {
			t.Fatalf("the ticket %d: %q, %d", serial, text, e)
		}
		return text
	}
	first := next(1, 0)
	d.b.Issue(ours(0), "d")
	d.b.Issue(ours(0), "")
	second := next(2, 1)
	d.b.Redeem(second, "ann")
	d.b.Redeem(second, "bob")
	d.b.Redeem(second, "bob")
	next(3, 1)
	d.b.Void(1)
	d.b.Void(1)
	d.b.Redeem("", "ann")
	next(4, 1)
	for visitor := 2; visitor < most; visitor++ {
		next(visitor+3, visitor)
	}
	for range 9 {
		d.b.Issue(ours(most), "d")
		d.b.Issue(ours(1), "d")
	}
	d.b.Redeem(first, "ann")
	next(67, most)
}

func TestIssue(t *testing.T) {
	d, _ := issued(t)
	for _, x := range []struct {
		p    api.Pass
		want api.Errno
	}{
		{api.Pass{Visitor: 3, Name: "web", Tenant: "ann", Epoch: 2}, api.ErrThere}, // the same pass
		{api.Pass{Visitor: 3, Name: "web", Tenant: "bob", Epoch: 2}, api.ErrThere}, // others of the same visitor
		{api.Pass{Visitor: 3, Name: "ftp", Tenant: "ann", Epoch: 2}, api.ErrThere},
		{api.Pass{Visitor: 3, Name: "web", Tenant: "ann", Epoch: 5}, api.ErrThere},
		{api.Pass{Visitor: 3}, api.ErrThere},
		{api.Pass{}, api.ErrThere}, // of 0
		{api.Pass{Visitor: 7}, api.ErrThere},
		{api.Pass{Visitor: 9}, api.ErrThere},
		{api.Pass{Visitor: 5, Name: "web", Tenant: "ann", Epoch: 2}, api.OK}, // the same, of another visitor
		{api.Pass{Visitor: 5, Name: "web", Tenant: "ann", Epoch: 2}, api.ErrThere},
		{api.Pass{Visitor: 6}, api.OK},
		{api.Pass{Visitor: -3, Name: "web", Tenant: "ann", Epoch: -2}, api.OK},
		{api.Pass{Visitor: 1<<32 + 3, Name: "A b", Tenant: "\xff", Epoch: -1 << 63}, api.OK},
	} {
		if _, e := d.issue(t, x.p, "d"); e != x.want {
			t.Errorf("%v: %d", x.p, e)
		}
	}
	if d.b.Many() != 11 {
		t.Error(d.b.Many())
	}
}

// Whatever a pass has, its ticket is issued and redeemed.
func TestAnyPass(t *testing.T) {
	for i, text := range strangeTexts() {
		for k, visitor := range strangeIds() {
			d, _ := issued(t)
			p := api.Pass{Visitor: visitor, Name: text, Tenant: strangeTexts()[(i+k)%len(strangeTexts())], Epoch: int64(visitor)}
			shown, e := d.issue(t, p, text)
			if e != api.OK {
				t.Errorf("Issue of %v: %d", p, e)
			}
			if got, e := d.redeem(t, shown, p.Tenant); got != p || e != api.OK {
				t.Errorf("Redeem of %v: %v, %d", p, got, e)
			}
		}
	}
}

func TestAsManyAsMayBeGood(t *testing.T) {
	d, _ := full(t)
	tooMany := func(visitor int) {
		t.Helper()
		for _, p := range []api.Pass{ours(visitor), {Visitor: visitor}, {Visitor: -visitor}} {
			if text, e := d.issue(t, p, "d"); text != "" || e != api.ErrTooMany {
				t.Errorf("with %d: %q, %d", d.b.Many(), text, e)
			}
		}
		if d.b.Many() != most {
			t.Error(d.b.Many())
		}
	}
	tooMany(100)
	for _, visitor := range []int{0, 63, 31, 1, 62} { // one less, whichever it is: one more
		for round, less := range []func(){
			func() { d.void(t, visitor) },
			func() { d.redeem(t, d.good[d.of(visitor)].text, ours(visitor).Tenant) },
		} {
			less()
			if d.b.Many() != most-1 {
				t.Error(d.b.Many())
			}
			if _, e := d.issue(t, ours(visitor+200+round), "d"); e != api.OK {
				t.Errorf("behind %d: %d", visitor, e)
			}
			tooMany(visitor)
			d.void(t, visitor+200+round)
			d.issue(t, ours(visitor), "d")
			tooMany(101)
		}
	}
	for visitor := range most {
		d.void(t, visitor)
	}
	for visitor := range most {
		if _, e := d.issue(t, ours(visitor+most), "d"); e != api.OK {
			t.Errorf("%d, behind all: %d", visitor, e)
		}
	}
	tooMany(500)
}

// A visitor of which a good ticket is, where there are too many: that there is one is told.
func TestWhichErrorOfAnIssue(t *testing.T) {
	d, texts := full(t)
	for visitor := range most {
		for _, p := range []api.Pass{ours(visitor), {Visitor: visitor}} {
			if text, e := d.issue(t, p, "d"); text != "" || e != api.ErrThere {
				t.Errorf("%d: %q, %d", visitor, text, e)
			}
		}
	}
	d.redeem(t, texts[9], "bob")
	d.issue(t, ours(99), "d")
	if text, e := d.issue(t, ours(9), "d"); text != "" || e != api.ErrTooMany { // of which none is good
		t.Errorf("%q, %d", text, e)
	}
}

// P15.1, O2.

func TestInTurns(t *testing.T) {
	d := newDesk(t, "key")
	many := func(want int) {
		t.Helper()
		if d.b.Many() != want {
			t.Fatalf("%d are good, not %d", d.b.Many(), want)
		}
	}
	ps := passes()
	redeem := func(text string, tenant string, want api.Pass, wantE api.Errno) {
		t.Helper()
		if p, e := d.redeem(t, text, tenant); p != want || e != wantE {
			t.Fatalf("%v, %d, not %v, %d", p, e, want, wantE)
		}
	}
	a, _ := d.issue(t, ps[0], "x")
	many(1)
	b, _ := d.issue(t, ps[1], "x")
	many(2)
	redeem(b, "ann", api.Pass{}, api.ErrHeld)
	many(2)
	redeem(b, "bob", ps[1], api.OK)
	many(1)
	c, _ := d.issue(t, ps[2], "y")
	e, _ := d.issue(t, ps[3], "")
	many(3)
	redeem(e, "ann", api.Pass{}, api.ErrHeld)
	redeem(c, "", api.Pass{}, api.ErrHeld)
	redeem(e, "", ps[3], api.OK)
	many(2)
	if !d.void(t, 3) || d.void(t, 3) || d.void(t, 1) {
		t.Fatal("void")
	}
	many(1)
	redeem(a, "ann", api.Pass{}, api.ErrSpent)
	redeem(c, "ann", ps[2], api.OK)
	many(0)
	for _, text := range []string{a, b, c, e} {
		redeem(text, "ann", api.Pass{}, api.ErrSpent)
	}
}

// In every order of three: each is redeemed for its own pass.
func TestRedeemInEveryOrder(t *testing.T) {
	for _, order := range [][]int{{0, 1, 2}, {0, 2, 1}, {1, 0, 2}, {1, 2, 0}, {2, 0, 1}, {2, 1, 0}} {
		d, texts := issued(t)
		for i, at := range order {
			p := passes()[2*at]
			if got, e := d.redeem(t, texts[2*at], p.Tenant); got != p || e != api.OK {
				t.Errorf("%v, %d: %v, %d", order, at, got, e)
			}
			if d.b.Many() != 6-i {
				t.Error(d.b.Many())
			}
		}
	}
}

// What is no ticket, however near it is to one that is good.
func TestRedeemOfNoTicket(t *testing.T) {
	d, texts := issued(t)
	var wrong []string
	for i, text := range texts {
		wrong = append(wrong, strings.ToUpper(text), text+" ", " "+text, text+"\x00", text+text, text[1:]+text[:1], text+"0")
		for at := range text {
			wrong = append(wrong, text[:at], text[at+1:], text[:at]+text[at+1:])
			for _, other := range "0123456789abcdef\x00\xff" {
				if byte(other) != text[at] {
					wrong = append(wrong, text[:at]+string([]byte{byte(other)})+text[at+1:])
				}
			}
		}
		wrong = append(wrong, told("key", i+1, "drawn "), told("key", i+8, "drawn"), told("kez", i+1, "drawn"), told("key", i+1, ""))
	}
	wrong = append(wrong, strangeTexts()...)
	for _, text := range wrong {
		for _, tenant := range []string{"ann", "bob", ""} {
			if p, e := d.b.Redeem(text, tenant); p != (api.Pass{}) || e != api.ErrSpent {
				t.Fatalf("Redeem of %q by %q: %v, %d", text, tenant, p, e)
			}
		}
	}
	d.like(t)
	for i, p := range passes() {
		if got, e := d.redeem(t, texts[i], p.Tenant); got != p || e != api.OK {
			t.Errorf("%v, behind what was wrong: %v, %d", p, got, e)
		}
	}
}

func TestVoid(t *testing.T) {
	d, texts := issued(t)
	for _, x := range []struct {
		visitor int
		was     bool
	}{{5, false}, {6, false}, {-3, false}, {1<<32 + 3, false}, {4, true}, {4, false}, {0, true}, {0, false}, {7, true}, {3, true}, {3, false}} {
		if was := d.void(t, x.visitor); was != x.was {
			t.Errorf("Void of %d: %t", x.visitor, was)
		}
	}
	for i, want := range []api.Errno{api.ErrSpent, api.OK, api.ErrSpent, api.ErrSpent, api.OK, api.OK, api.ErrSpent} {
		if _, e := d.redeem(t, texts[i], passes()[i].Tenant); e != want {
			t.Errorf("%d: %d", i, e)
		}
	}
	for _, visitor := range []int{1, 9, 2} { // whose tickets were redeemed
		if d.void(t, visitor) {
			t.Errorf("Void of %d", visitor)
		}
	}
	if d.b.Many() != 0 {
		t.Error(d.b.Many())
	}
}

// A visitor whose ticket is good no more may have one anew, for another pass; the first one is good no more for that.
func TestIssuedAnew(t *testing.T) {
	for at, p := range passes() {
		for _, goes := range []func(d *desk, text string){
			func(d *desk, text string) { d.redeem(t, text, p.Tenant) },
			func(d *desk, _ string) { d.void(t, p.Visitor) },
		} {
			d, texts := issued(t)
			goes(d, texts[at])
			again := api.Pass{Visitor: p.Visitor, Name: "other", Tenant: "dan", Epoch: 8}
			text, e := d.issue(t, again, "drawn")
			if text == texts[at] || e != api.OK {
				t.Errorf("%q, %d", text, e)
			}
			for _, tenant := range []string{p.Tenant, "dan"} {
				if got, e := d.redeem(t, texts[at], tenant); got != (api.Pass{}) || e != api.ErrSpent {
					t.Errorf("the first one, by %q: %v, %d", tenant, got, e)
				}
			}
			if _, e := d.redeem(t, text, p.Tenant); e != api.ErrHeld {
				t.Errorf("by %q: %d", p.Tenant, e)
			}
			if got, e := d.redeem(t, text, "dan"); got != again || e != api.OK {
				t.Errorf("%v, %d", got, e)
			}
			if _, e := d.issue(t, p, "drawn"); e != api.OK {
				t.Error(e)
			}
		}
	}
}

// P15.2: once at most, for the pass that it was issued for, by its tenant alone.

func TestOnce(t *testing.T) {
	for seed := range uint32(100) {
		draw, b := drawer(seed), ticket.New("once")
		of := map[string]api.Pass{} // all that were ever issued
		var texts []string
		redeemed := map[string]int{}
		for step := range 900 {
			visitor, tenant := draw(12), []string{"ann", "bob", ""}[draw(3)]
			switch draw(6) {
			case 0, 1:
				p := api.Pass{Visitor: visitor, Name: "web", Tenant: tenant, Epoch: int64(step)}
				if text, e := b.Issue(p, "d"); e == api.OK {
					of[text], texts = p, append(texts, text)
				}
			case 2:
				if draw(4) == 0 {
					b.Void(visitor)
				}
			default:
				if len(texts) == 0 {
					continue
				}
				text := texts[max(0, len(texts)-1-draw(15))]
				if p, e := b.Redeem(text, tenant); e == api.OK {
					redeemed[text]++
					if p != of[text] || p.Tenant != tenant || redeemed[text] > 1 {
						t.Fatalf("%v is redeemed by %q for %v, %d times", of[text], tenant, p, redeemed[text])
					}
				}
			}
		}
		if len(redeemed) < 20 {
			t.Fatalf("%d were redeemed: this tells nothing", len(redeemed))
		}
	}
}

// P15.3: what a tenant may not redeem is good still; also where names of tenants are near one another.

func TestOfAnotherTenant(t *testing.T) {
	near := []string{"ann", "Ann", "an", "anna", "ann ", " ann", "ann\x00", "", "\x00", "bob", "ANN", "n\xe9", "né"}
	for i, tenant := range near {
		d, texts := full(t)
		d.void(t, 30)
		p := api.Pass{Visitor: 30, Name: "web", Tenant: tenant, Epoch: 9}
		text, _ := d.issue(t, p, "d")
		for range 3 {
			for k, other := range near {
				if i == k {
					continue
				}
				if got, e := d.redeem(t, text, other); got != (api.Pass{}) || e != api.ErrHeld {
					t.Errorf("that of %q, by %q: %v, %d", tenant, other, got, e)
				}
				if d.b.Many() != most {
					t.Error(d.b.Many())
				}
				if _, e := d.issue(t, ours(30), "d"); e != api.ErrThere {
					t.Error(e)
				}
			}
		}
		if got, e := d.redeem(t, texts[7], "bob"); got != ours(7) || e != api.OK {
			t.Error(got, e)
		}
		if got, e := d.redeem(t, text, tenant); got != p || e != api.OK {
			t.Errorf("that of %q, by itself: %v, %d", tenant, got, e)
		}
		for _, other := range near {
			if got, e := d.redeem(t, text, other); got != (api.Pass{}) || e != api.ErrSpent {
				t.Errorf("that of %q, spent, by %q: %v, %d", tenant, other, got, e)
			}
		}
	}
}

// One that another tenant showed can be voided as well.
func TestVoidOfWhatWasHeld(t *testing.T) {
	d, texts := issued(t)
	d.redeem(t, texts[1], "ann")
	if !d.void(t, 1) || d.void(t, 1) {
		t.Error("it was good")
	}
	if _, e := d.redeem(t, texts[1], "bob"); e != api.ErrSpent {
		t.Error(e)
	}
}

// P15.1 to P15.3, in mixed rows of calls.

func TestMixedScripts(t *testing.T) {
	tenants := []string{"ann", "bob", "", "ann "}
	for seed := range uint32(60) {
		draw, d := drawer(seed), newDesk(t, strangeTexts()[seed%uint32(len(strangeTexts()))])
		visitors, issues := 5+draw(90), 1+draw(4)
		for range 300 {
			visitor, tenant := draw(visitors)-1, tenants[draw(len(tenants))]
			switch draw(4 + issues) {
			case 0:
				d.void(t, visitor)
			case 1:
				if len(d.spent) > 0 {
					d.redeem(t, d.spent[draw(len(d.spent))], tenant)
				}
			case 2, 3:
				if len(d.good) > 0 {
					o := d.good[draw(len(d.good))]
					d.redeem(t, o.text, []string{o.pass.Tenant, tenant}[draw(2)])
				}
			default:
				d.issue(t, api.Pass{Visitor: visitor, Name: "web", Tenant: tenant, Epoch: int64(draw(3))}, strings.Repeat("d", draw(300)))
			}
		}
	}
}

// P3: what is handed in is not changed and not kept; what is handed back may be written into; one book is none of another one.

// Texts whose bytes change behind the call show whether they are kept.
func TestTextsAreNotKept(t *testing.T) {
	text := func(b []byte) string { return unsafe.String(&b[0], len(b)) }
	key := []byte("key")
	d := &desk{b: ticket.New(text(key)), key: "key"}
	copy(key, "yek")
	p := api.Pass{Visitor: 1, Name: "web", Tenant: "ann", Epoch: 1}
	name, tenant, drawn := []byte("web"), []byte("ann"), []byte("drawn")
	shown, e := d.b.Issue(api.Pass{Visitor: 1, Name: text(name), Tenant: text(tenant), Epoch: 1}, text(drawn))
	if shown != told("key", 1, "drawn") || e != api.OK || string(name)+string(tenant)+string(drawn) != "webanndrawn" {
		t.Fatalf("%q, %d, %s, %s, %s", shown, e, name, tenant, drawn)
	}
	d.serial, d.good = 1, []one{{shown, p}}
	copy(name, "ftp")
	copy(tenant, "bob")
	copy(drawn, "other")
	d.like(t)
	d.issue(t, ours(2), "drawn")
	asked, by := []byte(shown), []byte("bob")
	d.refused(t, text(asked), text(by), api.ErrHeld)
	copy(by, "ann")
	got, e := d.b.Redeem(text(asked), text(by))
	if string(asked) != shown || string(by) != "ann" {
		t.Errorf("%s, %s", asked, by)
	}
	d.spend(0)
	clear(asked)
	clear(by)
	if got != p || e != api.OK {
		t.Errorf("%v, %d", got, e)
	}
	d.like(t)
}

// A pass that came out is written into: the book is the same behind it, and so is what came out ahead.
func TestWhatCameOutIsWrittenInto(t *testing.T) {
	d := newDesk(t, "key")
	for visitor := range 5 {
		d.issue(t, ours(visitor), "d")
	}
	var told []api.Pass
	for visitor := range 5 {
		p, _ := d.redeem(t, d.good[0].text, ours(visitor).Tenant)
		told = append(told, p)
		p.Visitor, p.Name, p.Tenant, p.Epoch = 3, "x", "y", 77
		d.like(t)
		d.issue(t, ours(visitor+10), "d")
	}
	if want := []api.Pass{ours(0), ours(1), ours(2), ours(3), ours(4)}; !slices.Equal(told, want) {
		t.Errorf("%v", told)
	}
}

func TestBooksAreApart(t *testing.T) {
	first, other, idle := newDesk(t, "key"), newDesk(t, "key"), newDesk(t, "key")
	for visitor := range 60 {
		a, _ := first.issue(t, ours(visitor), "d")
		b, _ := other.issue(t, ours(60-visitor), "d")
		if visitor%2 == 0 && a != b { // as both have issued so many, under one key
			t.Errorf("%q, %q", a, b)
		}
		if visitor%4 == 3 {
			first.redeem(t, a, ours(visitor).Tenant)
			other.void(t, 60-visitor)
		}
		first.like(t)
		other.like(t)
		idle.refused(t, a, ours(visitor).Tenant, api.ErrSpent)
		idle.like(t)
	}
}
