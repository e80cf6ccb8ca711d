package ticket_test

import (
	"crypto/hmac"
	"crypto/sha256"
	"encoding/hex"
	"math"
	"slices"
	"strconv"
	"strings"
	"testing"

	"subway/api"
	"subway/ticket"
)

// How many tickets may be good, how many digits one has, and how much of what is drawn goes into it.
const (
	most    = 64
	digits  = 32
	mostOfD = 255
)

// one is a ticket that was issued, and its pass.
type one struct {
	text string
	pass api.Pass
}

// desk is a book, and what the chapter says of it: the tickets that are good, in the order in which they were issued, and those that are good no more.
type desk struct {
	b      *ticket.Book
	key    string
	serial int
	good   []one
	spent  []string
}

func newDesk(t *testing.T, key string) *desk {
	t.Helper()
	b := ticket.New(key)
	if b == nil {
		t.Fatal("there is no book")
	}
	return &desk{b: b, key: key}
}

// told is the ticket of a serial and of something drawn, under a key: by the library's sums, none of the project's.
func told(key string, serial int, drawn string) string {
	sum := hmac.New(sha256.New, []byte(key))
	for _, word := range []string{strconv.Itoa(serial), drawn[:min(len(drawn), mostOfD)]} {
		sum.Write([]byte{byte(len(word))})
		sum.Write([]byte(word))
	}
	return hex.EncodeToString(sum.Sum(nil))[:digits]
}

// of is where in the good ones a visitor's stands, shown where one of a text does; -1: nowhere.
func (d *desk) of(visitor int) int {
	return slices.IndexFunc(d.good, func(o one) bool { return o.pass.Visitor == visitor })
}

func (d *desk) shown(text string) int {
	return slices.IndexFunc(d.good, func(o one) bool { return o.text == text })
}

// spend has a good one be good no more.
func (d *desk) spend(at int) one {
	o := d.good[at]
	d.good = slices.Delete(d.good, at, at+1)
	d.spent = append(d.spent, o.text)
	return o
}

// like asks the book what changes nothing, twice: how many are good; of a good one, that no other tenant may redeem it, and that its visitor has no second one; of a spent one, that nobody may.
func (d *desk) like(t *testing.T) {
	t.Helper()
	for range 2 {
		d.likeMany(t)
		for _, o := range d.good {
			d.refused(t, o.text, o.pass.Tenant+"x", api.ErrHeld)
			if text, e := d.b.Issue(api.Pass{Visitor: o.pass.Visitor, Tenant: "new"}, "more"); text != "" || e != api.ErrThere {
				t.Fatalf("Issue for %d, that has one: %q, %d", o.pass.Visitor, text, e)
			}
		}
		for _, text := range d.spent[max(0, len(d.spent)-5):] {
			d.refused(t, text, "ann", api.ErrSpent)
		}
		for _, visitor := range strangeIds() {
			if d.of(visitor) < 0 && d.b.Void(visitor) {
				t.Fatalf("%d had a ticket", visitor)
			}
		}
		d.likeMany(t)
	}
}

func (d *desk) likeMany(t *testing.T) {
	t.Helper()
	if many := d.b.Many(); many != len(d.good) {
		t.Fatalf("%d are good, not %d", many, len(d.good))
	}
}

func (d *desk) refused(t *testing.T, text string, tenant string, want api.Errno) {
	t.Helper()
	if p, e := d.b.Redeem(text, tenant); p != (api.Pass{}) || e != want {
		t.Fatalf("Redeem of %q by %q: %v, %d, not %d", text, tenant, p, e, want)
	}
}

func (d *desk) issue(t *testing.T, p api.Pass, drawn string) (string, api.Errno) {
	t.Helper()
	text, want := "", api.OK
	switch {
	case d.of(p.Visitor) >= 0:
		want = api.ErrThere
	case len(d.good) == most:
		want = api.ErrTooMany
	default:
		d.serial++
		text = told(d.key, d.serial, drawn)
		d.good = append(d.good, one{text, p})
	}
	if got, e := d.b.Issue(p, drawn); got != text || e != want {
		t.Fatalf("Issue of %v: %q, %d, not %q, %d", p, got, e, text, want)
	}
	d.like(t)
	return text, want
}

func (d *desk) redeem(t *testing.T, text string, tenant string) (api.Pass, api.Errno) {
	t.Helper()
	pass, want := api.Pass{}, api.OK
	switch at := d.shown(text); {
	case at < 0:
		want = api.ErrSpent
	case d.good[at].pass.Tenant != tenant:
		want = api.ErrHeld
	default:
		pass = d.spend(at).pass
	}
	if p, e := d.b.Redeem(text, tenant); p != pass || e != want {
		t.Fatalf("Redeem of %q by %q: %v, %d, not %v, %d", text, tenant, p, e, pass, want)
	}
	d.like(t)
	return pass, want
}

func (d *desk) void(t *testing.T, visitor int) bool {
	t.Helper()
	at := d.of(visitor)
	if at >= 0 {
		d.spend(at)
	}
	if was := d.b.Void(visitor); was != (at >= 0) {
		t.Fatalf("Void of %d: %t", visitor, was)
	}
	d.like(t)
	return at >= 0
}

// strangeIds may be visitors too: nobody asks whether a number is one.
func strangeIds() []int {
	return []int{-1, -2, math.MinInt, math.MaxInt, math.MaxInt - 1, math.MaxInt32 + 1, 1 << 32, 1<<32 + 1, 1 << 40}
}

// strangeTexts are tenants, names, keys and what is drawn, too.
func strangeTexts() []string {
	return []string{"", " ", "A", "ann ", "a\x00", "\x00", "é", "\xff", strings.Repeat("a", 21), strings.Repeat("k", 64), strings.Repeat("k", 65), strings.Repeat("n", 5000)}
}

// drawer draws numbers below one.
func drawer(seed uint32) func(int) int {
	return func(below int) int {
		seed = seed*1664525 + 1013904223
		return int(seed>>8) % below
	}
}
