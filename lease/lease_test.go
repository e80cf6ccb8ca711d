package lease_test

import (
	"math"
	"slices"
	"strings"
	"testing"
	"unsafe"

	"subway/api"
	"subway/lease"
)

// web is the lease of web that ann's connection 1 has, in an epoch, up to a time.
func web(epoch, until int64, held bool) api.Lease {
	return api.Lease{Name: "w0a", Tenant: "ann", Conn: 1, Epoch: epoch, Until: until, Held: held}
}

// claimed is a desk of the grace 5 and the most 20 whose name w0a ann claimed at 100 for 10.
func claimed(t *testing.T) *desk {
	t.Helper()
	d := newDesk(t, 5, 20)
	if e := d.claim(t, "ann", "w0a", 1, 100, 10); e != api.OK {
		t.Fatal(e)
	}
	d.has(t, web(1, 110, true))
	return d
}

// full is one of 64 names: of these ann's is each of an even place, held up to 200, and bob's each other one, up to 300.
func full(t *testing.T) *desk {
	t.Helper()
	d := newDesk(t, 5, 1000)
	for i, name := range names(most) {
		if e := d.claim(t, tenants()[i%2], name, i%4, 100, int64(100+100*(i%2))); e != api.OK {
			t.Fatalf("%s: %d", name, e)
		}
	}
	return d
}

// wrongTimes are none, wrongSpans neither.
func wrongTimes() []int64 {
	return []int64{-1, -2, -100, lastTime + 1, lastTime + 2, 1 << 41, math.MinInt64, math.MinInt64 + 1, math.MaxInt64 - 1, math.MaxInt64}
}

func wrongSpans() []int64 {
	return []int64{0, -1, -2, mostTime + 1, mostTime + 2, 1 << 40, math.MinInt64, math.MinInt64 + 1, math.MaxInt64 - 1, math.MaxInt64}
}

// P13.1, M1.

func TestOfWhatThereIsABook(t *testing.T) {
	for _, grace := range append(wrongSpans(), 1, 2, 5, mostTime-1, mostTime) {
		for _, most := range append(wrongSpans(), 1, 2, 5, mostTime-1, mostTime) {
			want := !slices.Contains(wrongSpans(), grace) && !slices.Contains(wrongSpans(), most)
			if b := lease.New(grace, most); (b != nil) != want {
				t.Errorf("of %d, %d there is a book: %t", grace, most, b != nil)
			}
		}
	}
}

func TestANewOne(t *testing.T) {
	d := newDesk(t, 5, 20)
	for _, now := range []int64{0, 1, 100, lastTime} {
		for _, name := range []string{"w0a", "", "A"} {
			if l, is := d.b.Holder(name, now); l != (api.Lease{}) || is {
				t.Errorf("%q is held: %v, %t", name, l, is)
			}
			d.evict(t, name, now)
			d.renew(t, "ann", name, 0, now, 1)
			d.renew(t, "ann", name, 1, now, 1)
			d.release(t, "ann", name, 0, now)
			d.release(t, "ann", name, 1, now)
		}
		d.leave(t, 0, now)
		d.leave(t, 1, now)
		d.lapse(t, now)
	}
	d.has(t)
	d.claim(t, "ann", "w0a", 1, 0, 10)
	d.has(t, web(1, 10, true))
}

// P13.1, M2.

func TestTheExample(t *testing.T) {
	d := newDesk(t, 5, 20)
	d.claim(t, "ann", "w0a", 1, 0, 5)
	if e := d.claim(t, "bob", "w0a", 2, 5, 5); e != api.ErrHeld {
		t.Error(e)
	}
}

// The whole way of a name, written out.
func TestTheWayOfAName(t *testing.T) {
	d := newDesk(t, 5, 20)
	d.claim(t, "ann", "w0a", 1, 0, 10)
	d.has(t, web(1, 10, true))
	d.renew(t, "ann", "w0a", 1, 9, 7)
	d.has(t, web(1, 16, true))
	d.release(t, "ann", "w0a", 1, 12)
	d.has(t, web(1, 17, false))
	d.claim(t, "ann", "w0a", 1, 16, 4)
	d.has(t, web(2, 20, true))
	if left := d.leave(t, 1, 18); !slices.Equal(left, []api.Lease{web(2, 20, true)}) {
		t.Errorf("it left: %v", left)
	}
	d.has(t, web(2, 23, false))
	d.claim(t, "ann", "w0a", 1, 20, 8)
	d.has(t, web(3, 28, true))
	if lapsed := d.lapse(t, 30); !slices.Equal(lapsed, []api.Lease{web(3, 28, true)}) {
		t.Errorf("it lapsed: %v", lapsed)
	}
	d.has(t, web(3, 33, false))
	d.claim(t, "ann", "w0a", 1, 32, 100)
	d.has(t, web(4, 52, true))
	if was, is := d.evict(t, "w0a", 33); was != web(4, 52, true) || !is {
		t.Errorf("it was taken away: %v, %t", was, is)
	}
	d.has(t)
	d.claim(t, "bob", "w0a", 2, 33, 1)
	d.has(t, api.Lease{Name: "w0a", Tenant: "bob", Conn: 2, Epoch: 5, Until: 34, Held: true})
	d.lapse(t, 39)
	d.has(t)
	d.claim(t, "ann", "w0a", 1, 39, 2)
	d.has(t, web(6, 41, true))
}

func TestHowLongItIsHeld(t *testing.T) {
	for _, most := range []int64{1, 2, 7, mostTime - 1, mostTime} {
		for _, now := range []int64{0, 1, 100, lastTime - 1, lastTime} {
			for _, ttl := range []int64{1, 2, most - 1, most, most + 1, mostTime - 1, mostTime} {
				if !spanned(ttl) {
					continue
				}
				d, want := newDesk(t, 3, most), now+min(ttl, most)
				l, e := d.b.Claim("ann", "w0a", 1, now, ttl)
				if l != web(1, want, true) || e != api.OK {
					t.Errorf("at %d, for %d, at most %d: %v, %d", now, ttl, most, l, e)
				}
				d.has(t, web(1, want, true))
				for at, held := range map[int64]bool{now: true, want - 1: true, want: false, want + 1: false} {
					if _, is := d.b.Holder("w0a", at); is != held {
						t.Errorf("up to %d: it is held at %d: %t", want, at, is)
					}
				}
			}
		}
	}
}

// A connection is any number; whose it is, nobody asks.
func TestAnyConnection(t *testing.T) {
	for _, conn := range []int{0, 1, -1, 64, 65, 1 << 40, math.MaxInt, math.MinInt} {
		d := newDesk(t, 5, 20)
		d.claim(t, "ann", "w0a", conn, 0, 10)
		d.claim(t, "bob", "v0a", conn, 0, 10)
		d.claim(t, "ann", "u0a", conn^1, 0, 10)
		if left := d.leave(t, conn, 1); len(left) != 2 || left[0].Name != "v0a" || left[1].Name != "w0a" || left[0].Conn != conn {
			t.Errorf("of %d: %v", conn, left)
		}
	}
}

func TestNamesThatAreNone(t *testing.T) {
	for _, bad := range strangeNames() {
		d := claimed(t)
		for _, e := range []api.Errno{
			d.claim(t, bad, "w0a", 1, 100, 10), d.claim(t, bad, "v0a", 1, 100, 10), d.claim(t, "ann", bad, 1, 100, 10),
			d.claim(t, bad, bad, 1, 100, 10), d.claim(t, bad, "w0a", 1, 1000, 10),
		} {
			if e != api.ErrArg {
				t.Errorf("%q may be claimed, or claim: %d", bad, e)
			}
		}
		d.has(t, web(1, 110, true))
	}
	longest := strings.Repeat("a", 20)
	d := newDesk(t, 5, 20)
	if l, e := d.b.Claim(longest, longest, 1, 0, 1); e != api.OK || l.Name != longest || l.Tenant != longest {
		t.Errorf("a name of 20 bytes: %v, %d", l, e)
	}
	if l, e := d.b.Claim(longest, longest+"a", 1, 0, 1); e != api.ErrArg || l != (api.Lease{}) {
		t.Errorf("a name of 21 bytes: %v, %d", l, e)
	}
}

func TestTimesThatMayNotBe(t *testing.T) {
	d := claimed(t)
	for _, now := range wrongTimes() {
		for _, e := range []api.Errno{
			d.claim(t, "ann", "v0a", 1, now, 10), d.claim(t, "ann", "w0a", 1, now, 10), d.claim(t, "bob", "w0a", 1, now, 10),
			d.renew(t, "ann", "w0a", 1, now, 10), d.renew(t, "ann", "v0a", 1, now, 10), d.renew(t, "bob", "w0a", 2, now, 10),
			d.release(t, "ann", "w0a", 1, now), d.release(t, "ann", "v0a", 1, now), d.release(t, "bob", "w0a", 2, now),
		} {
			if e != api.ErrArg {
				t.Errorf("at %d: %d", now, e)
			}
		}
		if was, is := d.evict(t, "w0a", now); is || was != (api.Lease{}) {
			t.Errorf("at %d it is taken away: %v", now, was)
		}
		if left := d.leave(t, 1, now); len(left) != 0 {
			t.Errorf("at %d these are left: %v", now, left)
		}
		if lapsed := d.lapse(t, now); len(lapsed) != 0 {
			t.Errorf("at %d these lapse: %v", now, lapsed)
		}
		d.has(t, web(1, 110, true))
	}
	for _, ttl := range wrongSpans() {
		for _, e := range []api.Errno{
			d.claim(t, "ann", "v0a", 1, 100, ttl), d.claim(t, "ann", "w0a", 1, 100, ttl), d.claim(t, "bob", "w0a", 1, 100, ttl),
			d.renew(t, "ann", "w0a", 1, 100, ttl), d.renew(t, "ann", "v0a", 1, 100, ttl), d.renew(t, "bob", "w0a", 2, 100, ttl),
		} {
			if e != api.ErrArg {
				t.Errorf("for %d: %d", ttl, e)
			}
		}
		d.has(t, web(1, 110, true))
	}
}

// A lease that is held behind the latest time there is: at that time all is asked, one more is none.
func TestTheLatestTime(t *testing.T) {
	fresh := func() *desk {
		d := newDesk(t, mostTime, mostTime)
		d.claim(t, "ann", "w0a", 1, lastTime, mostTime)
		d.has(t, web(1, lastTime+mostTime, true))
		d.evict(t, "w0a", lastTime+1)
		d.leave(t, 1, lastTime+1)
		d.lapse(t, lastTime+1)
		d.has(t, web(1, lastTime+mostTime, true))
		return d
	}
	d := fresh()
	if e := d.renew(t, "ann", "w0a", 1, lastTime, 1); e != api.OK {
		t.Error(e)
	}
	d.has(t, web(1, lastTime+1, true))
	if e := d.release(t, "ann", "w0a", 1, lastTime); e != api.OK {
		t.Error(e)
	}
	d.has(t, web(1, lastTime+mostTime, false))
	d = fresh()
	if left := d.leave(t, 1, lastTime); len(left) != 1 {
		t.Error(left)
	}
	d = fresh()
	if _, is := d.evict(t, "w0a", lastTime); !is {
		t.Error("it is not taken away")
	}
	d = fresh()
	if l, is := d.b.Holder("w0a", lastTime+mostTime-1); l != web(1, lastTime+mostTime, true) || !is { // Holder has no bound of times
		t.Error(l, is)
	}
	d = newDesk(t, mostTime, mostTime)
	d.claim(t, "ann", "w0a", 1, lastTime-1, 1)
	if lapsed := d.lapse(t, lastTime); len(lapsed) != 1 {
		t.Error(lapsed)
	}
	d.has(t, web(1, lastTime+mostTime, false))
}

// All that may be wrong of a claim, together: which error is told is the chapter's order.
func TestWhichErrorOfAClaim(t *testing.T) {
	d := full(t)
	of, taken, other := "w0a", "v0a", "cid" // ann's, bob's, one of whom there is nothing
	for _, x := range []struct {
		tenant, name string
		now, ttl     int64
		want         api.Errno
	}{
		{"A", of, 100, 10, api.ErrArg}, {"ann", taken, -1, 10, api.ErrArg}, {"ann", taken, 100, 0, api.ErrArg}, {"ann", of, lastTime + 1, 10, api.ErrArg},
		{"ann", of, 100, mostTime + 1, api.ErrArg}, {"ann", "x", 100, 0, api.ErrArg}, {"ann", "-x", 100, 10, api.ErrArg}, {"-ann", "x", 100, 10, api.ErrArg},
		{"bob", of, 100, 10, api.ErrHeld}, {"ann", taken, 100, 10, api.ErrHeld}, {other, of, 100, 10, api.ErrHeld}, {other, of, 204, 10, api.ErrHeld},
		{"ann", of, 100, 10, api.ErrThere}, {"bob", taken, 299, 10, api.ErrThere}, {"ann", of, 0, 10, api.ErrThere},
		{"ann", "x", 100, 10, api.ErrTooMany}, {other, "y-1", 1000, 10, api.ErrTooMany}, {"bob", "x", lastTime, mostTime, api.ErrTooMany},
	} {
		if l, e := d.b.Claim(x.tenant, x.name, 9, x.now, x.ttl); e != x.want || l != (api.Lease{}) {
			t.Errorf("%v: %v, %d", x, l, e)
		}
		d.like(t, 100)
	}
}

func TestAsManyAsMayBe(t *testing.T) {
	more := names(most + 1)[most]
	refused := func(d *desk, now int64) {
		t.Helper()
		for _, tenant := range tenants() {
			if e := d.claim(t, tenant, more, 7, now, 1); e != api.ErrTooMany {
				t.Errorf("with 64 leases %s claims one more at %d: %d", tenant, now, e)
			}
		}
	}
	granted := func(d *desk, tenant, name string, now int64) {
		t.Helper()
		if e := d.claim(t, tenant, name, 7, now, 1); e != api.OK {
			t.Errorf("%s claims %s at %d: %d", tenant, name, now, e)
		}
	}
	d := full(t)
	refused(d, 100)
	refused(d, 300) // ann's names are free, and nobody had them lapse: their places are taken
	granted(d, "bob", "w0a", 300)
	refused(d, 300)
	granted(d, "ann", "u0a", 300)
	refused(d, 300)

	d = full(t)
	d.lapse(t, 204) // ann's are kept, up to 205
	refused(d, 204)
	granted(d, "ann", "w0a", 204)
	if e := d.claim(t, "bob", "u0a", 7, 204, 1); e != api.ErrHeld {
		t.Error(e)
	}
	d.lapse(t, 205)
	if len(d.b.All()) != most/2+1 {
		t.Errorf("%d are left", len(d.b.All()))
	}
	for _, name := range names(most + 40)[most:][:most/2-1] {
		granted(d, "cid", name, 205)
	}
	if e := d.claim(t, "cid", "u0a", 7, 205, 1); e != api.ErrTooMany { // it is gone, and so is its place
		t.Error(e)
	}

	d = full(t)
	d.evict(t, "s3a", 100)
	granted(d, "cid", more, 100)
	if e := d.claim(t, "ann", "s3a", 7, 100, 1); e != api.ErrTooMany {
		t.Error(e)
	}

	d = full(t)
	d.release(t, "ann", "w0a", 1, 100) // what is kept has its place
	d.leave(t, 3, 100)
	refused(d, 100)
	refused(d, 105)
	granted(d, "cid", "w0a", 105)
	refused(d, 105)
}

// P13.1, M3.

func TestRenewAndRelease(t *testing.T) {
	for _, x := range []struct {
		tenant, name string
		epoch, now   int64
		want         api.Errno
	}{
		{"ann", "w0a", 1, 100, api.OK}, {"ann", "w0a", 1, 109, api.OK}, {"ann", "w0a", 1, 0, api.OK},
		{"ann", "w0a", 1, 110, api.ErrNone}, {"ann", "w0a", 1, 114, api.ErrNone}, {"ann", "w0a", 1, 115, api.ErrNone}, {"ann", "w0a", 1, lastTime, api.ErrNone},
		{"bob", "w0a", 1, 110, api.ErrNone}, {"ann", "w0a", 2, 110, api.ErrNone}, {"ann", "v0a", 1, 100, api.ErrNone}, {"ann", "", 1, 100, api.ErrNone},
		{"bob", "w0a", 1, 100, api.ErrHeld}, {"bob", "w0a", 2, 109, api.ErrHeld}, {"", "w0a", 1, 100, api.ErrHeld}, {"A", "w0a", 9, 100, api.ErrHeld}, {"w0a", "w0a", 1, 100, api.ErrHeld},
		{"ann", "w0a", 0, 100, api.ErrOld}, {"ann", "w0a", 2, 100, api.ErrOld}, {"ann", "w0a", -1, 109, api.ErrOld}, {"ann", "w0a", math.MaxInt64, 109, api.ErrOld},
	} {
		d := claimed(t)
		if e := d.renew(t, x.tenant, x.name, x.epoch, x.now, 7); e != x.want {
			t.Errorf("Renew %v: %d", x, e)
		}
		if x.want == api.OK {
			d.has(t, web(1, x.now+7, true))
		} else {
			d.has(t, web(1, 110, true))
		}
		d = claimed(t)
		if e := d.release(t, x.tenant, x.name, x.epoch, x.now); e != x.want {
			t.Errorf("Release %v: %d", x, e)
		}
		if x.want == api.OK {
			d.has(t, web(1, x.now+5, false))
		} else {
			d.has(t, web(1, 110, true))
		}
	}
}

// It is held on for as long as a claim would have it: no less if it was held for longer, no more than the most.
func TestHowLongItIsHeldOn(t *testing.T) {
	for _, most := range []int64{1, 10, mostTime} {
		for _, ttl := range []int64{1, 2, most - 1, most, most + 1, mostTime - 1, mostTime} {
			if !spanned(ttl) {
				continue
			}
			d := newDesk(t, 5, most)
			d.claim(t, "ann", "w0a", 1, 100, most)
			d.renew(t, "ann", "w0a", 1, 100, ttl)
			d.has(t, web(1, 100+min(ttl, most), true))
			at := 99 + min(ttl, most)
			d.renew(t, "ann", "w0a", 1, at, ttl)
			d.has(t, web(1, at+min(ttl, most), true))
		}
	}
}

// What is kept, or free, whichever way it became so, is not renewed, nor released, nor taken away, nor left.
func TestWhatIsNotHeld(t *testing.T) {
	for how, end := range ends() {
		for _, now := range []int64{110, 111, 114, 115, 116, 200, lastTime} {
			d := claimed(t)
			end(t, d)
			before := d.b.All()
			for _, e := range []api.Errno{
				d.renew(t, "ann", "w0a", 1, now, 10), d.release(t, "ann", "w0a", 1, now),
				d.renew(t, "bob", "w0a", 2, now, 10), d.release(t, "bob", "w0a", 2, now),
			} {
				if e != api.ErrNone {
					t.Errorf("%s, at %d: %d", how, now, e)
				}
			}
			if was, is := d.evict(t, "w0a", now); is {
				t.Errorf("%s, at %d: %v is taken away", how, now, was)
			}
			if left := d.leave(t, 1, now); len(left) != 0 {
				t.Errorf("%s, at %d: %v are left", how, now, left)
			}
			if l, is := d.b.Holder("w0a", now); is {
				t.Errorf("%s, at %d: it is held: %v", how, now, l)
			}
			d.has(t, before...)
		}
	}
}

// What is Held no more is not held at times ahead of that either.
func TestNotHeldAtEarlierTimes(t *testing.T) {
	for how, end := range ends() {
		d := claimed(t)
		end(t, d)
		want := how == "its time is over" // nobody told it: then it is held up to there
		for _, now := range []int64{math.MinInt64, 0, 100, 109} {
			if l, is := d.b.Holder("w0a", now); is != want {
				t.Errorf("%s, at %d: %v, %t", how, now, l, is)
			}
		}
	}
}

// ends are how the lease of claimed is held no more: each keeps it up to 115.
func ends() map[string]func(t *testing.T, d *desk) {
	return map[string]func(t *testing.T, d *desk){
		"released":          func(t *testing.T, d *desk) { d.renew(t, "ann", "w0a", 1, 109, 9); d.release(t, "ann", "w0a", 1, 110) },
		"left":              func(t *testing.T, d *desk) { d.renew(t, "ann", "w0a", 1, 109, 9); d.leave(t, 1, 110) },
		"lapsed":            func(t *testing.T, d *desk) { d.lapse(t, 110) },
		"lapsed late":       func(t *testing.T, d *desk) { d.lapse(t, 114) },
		"its time is over":  func(*testing.T, *desk) {},
		"lapsed, and again": func(t *testing.T, d *desk) { d.lapse(t, 111); d.lapse(t, 112); d.leave(t, 1, 112) },
	}
}

// P13.4: as long as the grace is, its tenant can claim it and nobody else can; from there on everybody can.

func TestKept(t *testing.T) {
	for how, end := range ends() {
		for now := int64(110); now < 120; now++ {
			for _, tenant := range tenants() {
				d := claimed(t)
				end(t, d)
				want := api.OK
				if tenant != "ann" && now < 115 {
					want = api.ErrHeld
				}
				if e := d.claim(t, tenant, "w0a", 3, now, 2); e != want {
					t.Errorf("%s: at %d %s claims it: %d, not %d", how, now, tenant, e, want)
				}
				if want == api.OK {
					d.has(t, api.Lease{Name: "w0a", Tenant: tenant, Conn: 3, Epoch: 2, Until: now + 2, Held: true})
				}
			}
		}
	}
}

func TestKeptForEachGrace(t *testing.T) {
	for _, grace := range []int64{1, 2, 3, 1000, mostTime - 1, mostTime} {
		for _, at := range []int64{0, 1, 50, lastTime - 2*mostTime} {
			for i, end := range []func(d *desk){
				func(d *desk) { d.release(t, "ann", "w0a", 1, at+4) },
				func(d *desk) { d.leave(t, 1, at+4) },
				func(d *desk) { d.renew(t, "ann", "w0a", 1, at, 4); d.lapse(t, at+4) },
				func(d *desk) { d.renew(t, "ann", "w0a", 1, at, 4); d.lapse(t, at+4+grace-1) },
				func(d *desk) { d.renew(t, "ann", "w0a", 1, at, 4) },
			} {
				d := newDesk(t, grace, 20)
				d.claim(t, "ann", "w0a", 1, at, 9)
				end(d)
				for _, now := range []int64{at + 4, at + 4 + grace/2, at + 4 + grace - 1} {
					if e := d.claim(t, "bob", "w0a", 2, now, 1); e != api.ErrHeld {
						t.Errorf("grace %d, end %d: bob claims it at %d: %d", grace, i, now, e)
					}
				}
				if e := d.claim(t, "bob", "w0a", 2, at+4+grace, 1); e != api.OK {
					t.Errorf("grace %d, end %d: bob claims it when that is over: %d", grace, i, e)
				}
			}
		}
	}
}

// What was taken away is kept for nobody.
func TestTakenAwayIsFree(t *testing.T) {
	for _, now := range []int64{0, 100, 109} {
		for _, tenant := range tenants() {
			d := claimed(t)
			if was, is := d.evict(t, "w0a", now); was != web(1, 110, true) || !is {
				t.Errorf("at %d: %v, %t", now, was, is)
			}
			d.has(t)
			d.evict(t, "w0a", now)
			if e := d.claim(t, tenant, "w0a", 4, now, 1); e != api.OK {
				t.Errorf("%s claims it: %d", tenant, e)
			}
		}
	}
	for _, name := range append(strangeNames(), "w", "w0", "w0aa", "ann", "v0a") {
		d := claimed(t)
		if was, is := d.evict(t, name, 100); is || was != (api.Lease{}) {
			t.Errorf("%q is taken away: %v", name, was)
		}
		d.has(t, web(1, 110, true))
	}
}

// P13.1, M4: who leaves, what lapses.

func TestLeave(t *testing.T) {
	for _, now := range []int64{0, 100, 199, 200, 201, 299, 300, lastTime} {
		for conn := range 4 {
			d := full(t)
			left := d.leave(t, conn, now)
			want := 16
			if now >= int64(200+100*(conn%2)) { // those of 0 and 2 are ann's
				want = 0
			}
			if len(left) != want || !slices.IsSortedFunc(left, func(one, other api.Lease) int { return strings.Compare(one.Name, other.Name) }) {
				t.Errorf("%d leaves at %d: %v", conn, now, left)
			}
			for _, l := range left {
				if !l.Held || l.Conn != conn || l.Until != int64(200+100*(conn%2)) {
					t.Errorf("%d leaves at %d: %v", conn, now, l)
				}
				if k := d.rows[d.row(l.Name)]; k.Held || k.Until != now+5 || k.Epoch != l.Epoch {
					t.Errorf("%d left at %d: %v", conn, now, k)
				}
			}
			for _, other := range []int{conn, -1, 4, 1 << 32, 1<<32 + conn, math.MaxInt} {
				if again := d.leave(t, other, now); len(again) != 0 {
					t.Errorf("%d leaves at %d, behind %d: %v", other, now, conn, again)
				}
			}
		}
	}
}

func TestLapse(t *testing.T) {
	for _, x := range []struct {
		now        int64
		told, left int
	}{{0, 0, 64}, {100, 0, 64}, {199, 0, 64}, {200, 32, 64}, {204, 32, 64}, {205, 32, 32}, {299, 32, 32}, {300, 64, 32}, {304, 64, 32}, {305, 64, 0}, {lastTime, 64, 0}} {
		d := full(t)
		lapsed := d.lapse(t, x.now)
		if len(lapsed) != x.told || len(d.b.All()) != x.left {
			t.Errorf("at %d %d lapse, and %d are left", x.now, len(lapsed), len(d.b.All()))
		}
		if !slices.IsSortedFunc(lapsed, func(one, other api.Lease) int { return strings.Compare(one.Name, other.Name) }) {
			t.Errorf("at %d: %v", x.now, lapsed)
		}
		for _, l := range lapsed {
			if !l.Held || l.Until > x.now {
				t.Errorf("at %d: %v lapses", x.now, l)
			}
		}
		if again := d.lapse(t, x.now); len(again) != 0 {
			t.Errorf("at %d these lapse again: %v", x.now, again)
		}
	}
}

// Each lapses once, at its own time; what is kept alone is not told again when it goes.
func TestLapseTickByTick(t *testing.T) {
	d := newDesk(t, 3, 100)
	for i, name := range names(12) {
		d.claim(t, tenants()[i%3], name, i, 0, int64(1+i%5))
	}
	d.release(t, "ann", "w0a", 1, 0)
	times := map[string]int64{}
	for now := range int64(12) {
		for _, l := range d.lapse(t, now) {
			if _, is := times[l.Name]; is || l.Until != now {
				t.Errorf("%v lapses at %d", l, now)
			}
			times[l.Name] = now
		}
	}
	if len(times) != 11 || len(d.b.All()) != 0 {
		t.Errorf("these lapsed: %v; these are left: %v", times, d.b.All())
	}
}

// P13.1, M5. A time is any number here: what is Held is held at all below its end.

func TestHolder(t *testing.T) {
	d := claimed(t)
	for now, held := range map[int64]bool{math.MinInt64: true, -1: true, 0: true, 99: true, 100: true, 109: true, 110: false, 114: false, 115: false, lastTime: false, lastTime + 1: false, math.MaxInt64: false} {
		l, is := d.b.Holder("w0a", now)
		if is != held || is && l != web(1, 110, true) || !is && l != (api.Lease{}) {
			t.Errorf("at %d: %v, %t", now, l, is)
		}
		for _, name := range append(strangeNames(), "v0a", "ann", "w0") {
			if l, is := d.b.Holder(name, now); is || l != (api.Lease{}) {
				t.Errorf("%q at %d: %v, %t", name, now, l, is)
			}
		}
	}
	d.has(t, web(1, 110, true))
}

func TestAllRise(t *testing.T) {
	d := newDesk(t, 5, 20)
	for i, name := range []string{"b", "a-b", "ab", "a", "9", "z", "aa", "10", "a0"} {
		if _, e := d.b.Claim(tenants()[i%3], name, i, 0, 10); e != api.OK {
			t.Fatal(e)
		}
	}
	want := []string{"10", "9", "a", "a-b", "a0", "aa", "ab", "b", "z"}
	told := func(l []api.Lease) []string {
		var out []string
		for _, l := range l {
			out = append(out, l.Name)
		}
		return out
	}
	if got := told(d.b.All()); !slices.Equal(got, want) {
		t.Errorf("all are %v", got)
	}
	if got := told(d.b.Lapse(10)); !slices.Equal(got, want) {
		t.Errorf("these lapse: %v", got)
	}
}

// P13.2: all times at which two claim one name, of which the first is granted. Whoever holds it then, the other one does not.

func TestOneHolder(t *testing.T) {
	for first := range int64(4) {
		for ttl := int64(1); ttl < 8; ttl++ {
			for second := first; second < 20; second++ {
				d := newDesk(t, 3, 5)
				d.claim(t, "ann", "w0a", 1, first, ttl)
				until := first + min(ttl, 5)
				want := api.OK
				if second < until+3 {
					want = api.ErrHeld
				}
				if e := d.claim(t, "bob", "w0a", 2, second, 9); e != want {
					t.Errorf("ann holds it up to %d, bob claims it at %d: %d", until, second, e)
				}
				l, is := d.b.Holder("w0a", second)
				if holds := second < until || want == api.OK; is != holds || is && (l.Tenant == "bob") != (want == api.OK) {
					t.Errorf("ann holds it up to %d, bob claimed it at %d: %v, %t", until, second, l, is)
				}
			}
		}
	}
}

// One who holds it is refused as well, on each connection.
func TestHeldByOneself(t *testing.T) {
	for _, conn := range []int{1, 2, 0} {
		for now := int64(100); now < 117; now++ {
			d, want := claimed(t), api.OK
			if now < 110 {
				want = api.ErrThere
			}
			if e := d.claim(t, "ann", "w0a", conn, now, 3); e != want {
				t.Errorf("at %d, by %d: %d", now, conn, e)
			}
		}
	}
}

// P13.3: each claim that is granted has the next epoch, of whichever name and tenant it is; nothing else has one.

func TestEpochs(t *testing.T) {
	d := newDesk(t, 5, 20)
	next := int64(1)
	granted := func(tenant, name string, now int64) {
		t.Helper()
		if e := d.claim(t, tenant, name, 1, now, 10); e != api.OK {
			t.Fatalf("%s, at %d: %d", name, now, e)
		}
		if l, _ := d.b.Holder(name, now); l.Epoch != next {
			t.Errorf("%s, at %d: of %d, not %d", name, now, l.Epoch, next)
		}
		next++
	}
	for round := range int64(6) {
		now := 100 * round
		granted("ann", "w0a", now)
		d.claim(t, "ann", "w0a", 1, now, 10)
		d.claim(t, "bob", "w0a", 1, now, 10)
		d.claim(t, "bob", "-", 1, now, 10)
		d.claim(t, "bob", "v0a", 1, -1, 10)
		d.claim(t, "bob", "v0a", 1, now, 0)
		granted("bob", "v0a", now)
		d.renew(t, "ann", "w0a", next-2, now+1, 3)
		d.release(t, "ann", "w0a", next-2, now+2)
		granted("ann", "w0a", now+3)
		d.evict(t, "w0a", now+4)
		granted("bob", "w0a", now+4)
		d.leave(t, 1, now+5)
		granted("bob", "w0a", now+6)
		d.lapse(t, now+50)
		d.leave(t, 1, now+50)
	}
	d = full(t)
	next = most + 1
	d.claim(t, "ann", "x", 1, 100, 10)
	d.evict(t, "w0a", 100)
	granted("cid", "w0a", 100)
}

// P13.1 to P13.4, in mixed rows of calls, by rising times and by others; wrong ones between them.

// script is a row of calls, drawn.
type script struct {
	d    *desk
	draw func(int) int
	now  int64
	back bool // times fall, too
	many int  // names
	last int64
}

func (s *script) step(t *testing.T) {
	t.Helper()
	draw, d := s.draw, s.d
	s.now += int64(draw(4) / 2)
	if s.back && draw(6) == 0 {
		s.now = max(0, s.now-int64(draw(12)))
	}
	now, ttl := s.now, int64(1+draw(12))
	switch draw(40) {
	case 0:
		now = wrongTimes()[draw(len(wrongTimes()))]
	case 1:
		ttl = wrongSpans()[draw(len(wrongSpans()))]
	}
	tenant, name, conn := tenants()[draw(3)], names(s.many)[draw(s.many)], draw(4)
	epoch := s.epoch(name)
	switch draw(10) {
	case 0, 1, 2, 3:
		if d.claim(t, tenant, name, conn, now, ttl) == api.OK {
			if d.epoch <= s.last {
				t.Fatalf("the epoch %d is not above %d", d.epoch, s.last)
			}
			s.last = d.epoch
		}
	case 4, 5:
		d.renew(t, s.tenant(name, tenant), name, epoch, now, ttl)
	case 6:
		d.release(t, s.tenant(name, tenant), name, epoch, now)
	case 7:
		if draw(3) == 0 {
			d.evict(t, name, now)
		}
	case 8:
		d.leave(t, conn, now)
	default:
		d.lapse(t, now)
	}
}

// epoch is mostly that of a name's lease, tenant its tenant.
func (s *script) epoch(name string) int64 {
	if i := s.d.row(name); i >= 0 && s.draw(5) > 0 {
		return s.d.rows[i].Epoch
	}
	return int64(s.draw(9) - 1)
}

func (s *script) tenant(name, other string) string {
	if i := s.d.row(name); i >= 0 && s.draw(4) > 0 {
		return s.d.rows[i].Tenant
	}
	return other
}

func TestMixedScripts(t *testing.T) {
	for seed := range uint32(120) {
		draw := drawer(seed)
		s := &script{d: newDesk(t, int64(1+draw(8)), int64(1+draw(14))), draw: draw, back: seed%3 == 0, many: 1 + draw(9)}
		for range 300 {
			s.step(t)
		}
	}
}

func TestMixedScriptsOfMany(t *testing.T) {
	for seed := range uint32(6) {
		draw := drawer(seed)
		s := &script{d: newDesk(t, int64(5+draw(60)), int64(40+draw(400))), draw: draw, back: seed%2 == 0, many: 80}
		for i, name := range names(80) {
			s.d.claim(t, tenants()[i%3], name, i%4, 0, int64(100+i))
		}
		for range 400 {
			s.step(t)
		}
	}
}

// P3: what is handed in is not kept; what is handed back may be written into; one book is none of another one.

// All that comes out is written into by the desk; here it is kept, too, and looked at behind the calls to come.
func TestListsAreNew(t *testing.T) {
	d := full(t)
	var told, want [][]api.Lease
	tell := func(l []api.Lease) {
		told, want = append(told, l), append(want, slices.Clone(l))
	}
	tell(d.b.All())
	for now := int64(100); now < 104; now++ {
		tell(d.b.Leave(int(now-100), now))
		tell(d.b.All())
	}
	d = full(t)
	for _, now := range []int64{200, 205, 300, 305} {
		tell(d.b.Lapse(now))
		tell(d.b.All())
		for _, name := range names(most) {
			d.b.Claim("cid", name, 1, now, 1000)
		}
		tell(d.b.Leave(1, now))
	}
	for i := range told {
		for k := range told { // behind all calls, and behind each list ahead of this one was written into
			if !slices.Equal(told[k], want[k]) {
				t.Fatalf("what was told became %v", told[k])
			}
		}
		spoil(told[i])
		want[i] = slices.Clone(told[i])
	}
}

// A text whose bytes change behind the call shows whether it is kept.
func TestTextsAreNotKept(t *testing.T) {
	text := func(b []byte) string { return unsafe.String(&b[0], len(b)) }
	b := lease.New(5, 20)
	tenant, name := []byte("ann"), []byte("web")
	got, e := b.Claim(text(tenant), text(name), 1, 0, 10)
	if e != api.OK {
		t.Fatal(e)
	}
	spoil := func() {
		copy(tenant, "eve")
		copy(name, "ftp")
	}
	want := api.Lease{Name: "web", Tenant: "ann", Conn: 1, Epoch: 1, Until: 10, Held: true}
	same := func(want api.Lease) {
		t.Helper()
		if l, is := b.Holder("web", 0); got != want || l != want || !is || !slices.Equal(b.All(), []api.Lease{want}) {
			t.Errorf("it is %v, and %v was told; all are %v", l, got, b.All())
		}
		if l, is := b.Holder("ftp", 0); is {
			t.Errorf("ftp is held: %v", l)
		}
	}
	spoil()
	same(want)
	tenant, name = []byte("ann"), []byte("web")
	if got, e = b.Renew(text(tenant), text(name), 1, 1, 12); e != api.OK {
		t.Fatal(e)
	}
	spoil()
	want.Until = 13
	same(want)
	b.Release("ann", "web", 1, 2)
	tenant, name = []byte("ann"), []byte("web")
	if got, e = b.Claim(text(tenant), text(name), 1, 3, 10); e != api.OK { // that name has a lease already
		t.Fatal(e)
	}
	spoil()
	want.Epoch = 2
	same(want)
	name = []byte("web")
	got, is := b.Evict(text(name), 4)
	spoil()
	if got != want || !is {
		t.Errorf("it was %v, %t", got, is)
	}
}

func TestBooksAreApart(t *testing.T) {
	one, other, idle := newDesk(t, 3, 9), newDesk(t, 3, 9), newDesk(t, 3, 9)
	for i := range int64(40) {
		name := names(5)[i%5]
		one.claim(t, tenants()[i%3], name, 1, i, 4)
		other.claim(t, tenants()[(i+1)%3], name, 1, i, 2)
		one.leave(t, 1, i+i%2)
		other.lapse(t, i)
		one.like(t, i)
		other.like(t, i)
		idle.has(t)
	}
}
