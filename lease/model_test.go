package lease_test

import (
	"cmp"
	"slices"
	"testing"

	"subway/api"
	"subway/lease"
)

// The longest time that something may be for, the latest one, and how many leases there may be.
const (
	mostTime = 1 << 30
	lastTime = 1 << 40
	most     = 64
)

// desk is a book, and what the chapter says of it: its leases in a row, in no order.
type desk struct {
	b     *lease.Book
	grace int64
	most  int64
	epoch int64
	rows  []api.Lease
}

func newDesk(t *testing.T, grace, most int64) *desk {
	t.Helper()
	b := lease.New(grace, most)
	if b == nil {
		t.Fatalf("there is no book of %d, %d", grace, most)
	}
	return &desk{b: b, grace: grace, most: most, epoch: 1}
}

func isHeld(l api.Lease, now int64) bool {
	return l.Held && now < l.Until
}

func (d *desk) isKept(l api.Lease, now int64) bool {
	return l.Held && now >= l.Until && now < l.Until+d.grace || !l.Held && now < l.Until
}

// row is the place of a name's lease, -1 if there is none.
func (d *desk) row(name string) int {
	return slices.IndexFunc(d.rows, func(l api.Lease) bool { return l.Name == name })
}

func (d *desk) holder(name string, now int64) (api.Lease, bool) {
	if i := d.row(name); i >= 0 && isHeld(d.rows[i], now) {
		return d.rows[i], true
	}
	return api.Lease{}, false
}

// all are the rows of which something is so, by rising names.
func (d *desk) all(so func(api.Lease) bool) []api.Lease {
	var out []api.Lease
	for _, l := range d.rows {
		if so(l) {
			out = append(out, l)
		}
	}
	slices.SortFunc(out, func(one, other api.Lease) int { return cmp.Compare(one.Name, other.Name) })
	return out
}

// spoil writes into a list that came out, and its spare room (P3): the book is the same behind it.
func spoil(l []api.Lease) {
	l = l[:cap(l)]
	for i := range l {
		l[i] = api.Lease{Name: "spoiled", Tenant: "eve", Conn: 9, Epoch: 99, Until: 9999, Held: true}
	}
}

// like holds the book's leases against the rows, and asks who holds each name about its ends; twice: to ask changes nothing.
func (d *desk) like(t *testing.T, now int64) {
	t.Helper()
	for range 2 {
		got, want := d.b.All(), d.all(func(api.Lease) bool { return true })
		if !slices.Equal(got, want) {
			t.Fatalf("at %d: all are %v, not %v", now, got, want)
		}
		spoil(got)
		for _, l := range d.rows {
			for _, at := range []int64{now, now - 1, now + 1, l.Until - 1, l.Until, l.Until + d.grace} {
				got, is := d.b.Holder(l.Name, at)
				if want, held := d.holder(l.Name, at); got != want || is != held {
					t.Fatalf("at %d: Holder of %s at %d is %v, %t, not %v, %t", now, l.Name, at, got, is, want, held)
				}
			}
		}
	}
}

// has holds all leases against a row that is written out.
func (d *desk) has(t *testing.T, want ...api.Lease) {
	t.Helper()
	for range 2 {
		if got := d.b.All(); !slices.Equal(got, want) {
			t.Fatalf("all are %v, not %v", got, want)
		}
	}
}

func timed(now int64) bool { return now >= 0 && now <= lastTime }
func spanned(n int64) bool { return n >= 1 && n <= mostTime }
func named(s string) bool  { return !slices.Contains(strangeNames(), s) }
func tenants() []string    { return []string{"ann", "bob", "cid"} }
func strangeNames() []string {
	return []string{"", " ", "A", "-", "a-", "-a", "a b", "a\x00", "é", "\xff", "aaaaaaaaaaaaaaaaaaaaa"}
}

// names are so many, none of which is there twice; they do not rise.
func names(many int) []string {
	var out []string
	for i := range many {
		out = append(out, string([]byte{'w' - byte(i%7), '0' + byte(i/7%10), 'a' + byte(i/70)}))
	}
	return out
}

func (d *desk) wantClaim(tenant, name string, conn int, now, ttl int64) (api.Lease, api.Errno) {
	if !named(tenant) || !named(name) || !timed(now) || !spanned(ttl) {
		return api.Lease{}, api.ErrArg
	}
	i := d.row(name)
	if i >= 0 && d.rows[i].Tenant != tenant && (isHeld(d.rows[i], now) || d.isKept(d.rows[i], now)) {
		return api.Lease{}, api.ErrHeld
	}
	if i >= 0 && isHeld(d.rows[i], now) {
		return api.Lease{}, api.ErrThere
	}
	if i < 0 && len(d.rows) == most {
		return api.Lease{}, api.ErrTooMany
	}
	l := api.Lease{Name: name, Tenant: tenant, Conn: conn, Epoch: d.epoch, Until: now + min(ttl, d.most), Held: true}
	d.epoch++
	if i >= 0 {
		d.rows = slices.Delete(d.rows, i, i+1)
	}
	d.rows = append(d.rows, l)
	return l, api.OK
}

// fault is why a tenant may not renew, or release, a name of that epoch.
func (d *desk) fault(tenant, name string, epoch, now int64) api.Errno {
	l, is := d.holder(name, now)
	switch {
	case !is:
		return api.ErrNone
	case l.Tenant != tenant:
		return api.ErrHeld
	case l.Epoch != epoch:
		return api.ErrOld
	}
	return api.OK
}

func (d *desk) claim(t *testing.T, tenant, name string, conn int, now, ttl int64) api.Errno {
	t.Helper()
	want, fault := d.wantClaim(tenant, name, conn, now, ttl)
	if got, e := d.b.Claim(tenant, name, conn, now, ttl); got != want || e != fault {
		t.Fatalf("%s claims %s, by %d, at %d, for %d: %v, %d, not %v, %d", tenant, name, conn, now, ttl, got, e, want, fault)
	}
	d.like(t, now)
	return fault
}

func (d *desk) renew(t *testing.T, tenant, name string, epoch, now, ttl int64) api.Errno {
	t.Helper()
	want, fault := api.Lease{}, api.ErrArg
	if timed(now) && spanned(ttl) {
		fault = d.fault(tenant, name, epoch, now)
	}
	if fault == api.OK {
		l := &d.rows[d.row(name)]
		l.Until = now + min(ttl, d.most)
		want = *l
	}
	if got, e := d.b.Renew(tenant, name, epoch, now, ttl); got != want || e != fault {
		t.Fatalf("%s renews %s, of %d, at %d, for %d: %v, %d, not %v, %d", tenant, name, epoch, now, ttl, got, e, want, fault)
	}
	d.like(t, now)
	return fault
}

func (d *desk) release(t *testing.T, tenant, name string, epoch, now int64) api.Errno {
	t.Helper()
	fault := api.ErrArg
	if timed(now) {
		fault = d.fault(tenant, name, epoch, now)
	}
	if fault == api.OK {
		l := &d.rows[d.row(name)]
		l.Held, l.Until = false, now+d.grace
	}
	if e := d.b.Release(tenant, name, epoch, now); e != fault {
		t.Fatalf("%s releases %s, of %d, at %d: %d, not %d", tenant, name, epoch, now, e, fault)
	}
	d.like(t, now)
	return fault
}

func (d *desk) evict(t *testing.T, name string, now int64) (api.Lease, bool) {
	t.Helper()
	want, held := d.holder(name, now)
	if !timed(now) {
		want, held = api.Lease{}, false
	}
	if held {
		i := d.row(name)
		d.rows = slices.Delete(d.rows, i, i+1)
	}
	if got, is := d.b.Evict(name, now); got != want || is != held {
		t.Fatalf("Evict of %s at %d: %v, %t, not %v, %t", name, now, got, is, want, held)
	}
	d.like(t, now)
	return want, held
}

func (d *desk) leave(t *testing.T, conn int, now int64) []api.Lease {
	t.Helper()
	var want []api.Lease
	if timed(now) {
		want = d.all(func(l api.Lease) bool { return l.Conn == conn && isHeld(l, now) })
	}
	for _, l := range want {
		r := &d.rows[d.row(l.Name)]
		r.Held, r.Until = false, now+d.grace
	}
	got := d.b.Leave(conn, now)
	if !slices.Equal(got, want) {
		t.Fatalf("Leave of %d at %d: %v, not %v", conn, now, got, want)
	}
	spoil(got)
	d.like(t, now)
	return want
}

func (d *desk) lapse(t *testing.T, now int64) []api.Lease {
	t.Helper()
	var want []api.Lease
	if timed(now) {
		want = d.all(func(l api.Lease) bool { return l.Held && l.Until <= now })
		for _, l := range want {
			r := &d.rows[d.row(l.Name)]
			r.Held, r.Until = false, l.Until+d.grace
		}
		d.rows = slices.DeleteFunc(d.rows, func(l api.Lease) bool { return !isHeld(l, now) && !d.isKept(l, now) })
	}
	got := d.b.Lapse(now)
	if !slices.Equal(got, want) {
		t.Fatalf("Lapse at %d: %v, not %v", now, got, want)
	}
	spoil(got)
	d.like(t, now)
	return want
}

// drawer draws numbers below one.
func drawer(seed uint32) func(int) int {
	return func(below int) int {
		seed = seed*1664525 + 1013904223
		return int(seed>>8) % below
	}
}
