package conn_test

import (
	"bytes"
	"math"
	"slices"
	"testing"

	"subway/api"
	"subway/conn"
)

// strangers are numbers that are no connection's, of a table that opened at most 70.
func strangers() []int {
	return []int{0, -1, -2, -64, 71, 128, 256, 257, 512, 1 << 30, 1 << 32, 1<<32 + 1, 1<<32 + 2, -1 << 32, 1 - 1<<32, math.MinInt, math.MinInt + 1, math.MinInt32, math.MaxInt, math.MaxInt32, math.MaxInt32 + 1, math.MaxUint32}
}

// states are tables that one may be in: of each, what was done to it.
func states() map[string]func(*testing.T) *conns {
	after := func(many int, do func(*testing.T, *conns)) func(*testing.T) *conns {
		return func(t *testing.T) *conns {
			t.Helper()
			c := opened(t, many)
			do(t, c)
			return c
		}
	}
	return map[string]func(*testing.T) *conns{
		"new":        after(0, func(*testing.T, *conns) {}),
		"one":        after(1, func(*testing.T, *conns) {}),
		"one, gone":  after(1, func(t *testing.T, c *conns) { c.close(t, 1) }),
		"full":       after(maxConns, func(*testing.T, *conns) {}),
		"full again": after(maxConns, func(t *testing.T, c *conns) { c.close(t, 7); c.open(t, 5) }),
		"with bytes": after(3, func(t *testing.T, c *conns) {
			c.feed(t, 1, []byte("\xaa\x02abc"))
			c.say(t, 2, []byte("xyz"))
			c.budget(t, 2, 2)
			c.say(t, 3, []byte("left"))
			c.budget(t, 3, 1)
			c.feed(t, 3, []byte("left, too"))
			c.half(t, 3)
			c.close(t, 3)
		}),
		"ended": after(2, func(t *testing.T, c *conns) {
			c.feed(t, 1, []byte("\xaa\x01a\xaa"))
			c.half(t, 1)
			c.half(t, 2)
		}),
		"with too much": after(2, func(t *testing.T, c *conns) {
			c.feed(t, 1, row(170, maxIn+1))
			c.say(t, 1, row(0, maxOut))
			c.budget(t, 1, maxBudget)
			c.feed(t, 2, []byte("no frame"))
		}),
	}
}

// P18.1, S1.

func TestANewOne(t *testing.T) {
	c := newConns(t)
	c.like(t)
	if all := c.t.All(); len(all) != 0 {
		t.Errorf("a new one has %v", all)
	}
	for _, id := range append(strangers(), 1, 2, 64) {
		c.likeNone(t, id)
	}
	if id, e := c.t.Open(0); id != 1 || e != api.OK {
		t.Errorf("the first one: %d, %d", id, e)
	}
}

// A connection that was just opened has an address, and else nothing.
func TestOpen(t *testing.T) {
	for _, addr := range []uint32{0, 1, 255, 167838211, math.MaxInt32, math.MaxInt32 + 1, math.MaxUint32 - 1, math.MaxUint32} {
		c := conn.New()
		for want := range 3 { // of one address there may be many
			id, e := c.Open(addr)
			if id != want+1 || e != api.OK {
				t.Errorf("Open of %d: %d, %d", addr, id, e)
			}
			if !c.Has(id) || c.Addr(id) != addr || c.Came(id) != 0 || c.Waits(id) != 0 || c.Room(id) != 1024 || c.Credit(id) != 0 || c.Ended(id) {
				t.Errorf("of %d: %t, %d, %d, %d, %d, %d, %t", addr, c.Has(id), c.Addr(id), c.Came(id), c.Waits(id), c.Room(id), c.Credit(id), c.Ended(id))
			}
			if b, is, e := c.Next(id); len(b) != 0 || is || e != api.OK {
				t.Errorf("Next: %q, %t, %d", b, is, e)
			}
			if rest, sent := c.Rest(id, 9), c.Flush(id); len(rest) != 0 || len(sent) != 0 {
				t.Errorf("Rest %q, Flush %q", rest, sent)
			}
		}
	}
}

func TestTooMany(t *testing.T) {
	c := newConns(t)
	for i := range maxConns {
		if id := c.open(t, uint32(i)); id != i+1 {
			t.Errorf("the %dth is %d", i+1, id)
		}
	}
	for range 3 {
		if id, e := c.t.Open(9); id != 0 || e != api.ErrTooMany {
			t.Errorf("the 65th: %d, %d", id, e)
		}
	}
	c.likeNone(t, 65)
	c.close(t, 64)
	if id := c.open(t, 9); id != 65 { // what was refused was no connection, and had no number
		t.Errorf("behind a refusal: %d", id)
	}
	if c.open(t, 9) != 0 {
		t.Error("a 65th one")
	}
}

// There is room for one more when any of them was closed.
func TestRoomForOneMore(t *testing.T) {
	for gone := 1; gone <= maxConns; gone++ {
		c := opened(t, maxConns)
		c.open(t, 1)
		if !c.close(t, gone) || c.close(t, gone) {
			t.Errorf("Close of %d", gone)
		}
		c.likeNone(t, gone)
		if id := c.open(t, 2); id != maxConns+1 {
			t.Errorf("behind the Close of %d: %d", gone, id)
		}
		c.open(t, 3)
		if c.t.Has(gone) {
			t.Errorf("%d is there anew", gone)
		}
	}
}

func TestAllRise(t *testing.T) {
	c := opened(t, 10)
	for _, id := range []int{3, 10, 1, 7} {
		c.close(t, id)
	}
	for range 3 {
		c.open(t, 0)
	}
	if got, want := c.t.All(), []int{2, 4, 5, 6, 8, 9, 11, 12, 13}; !slices.Equal(got, want) {
		t.Errorf("All are %v, not %v", got, want)
	}
	for _, id := range c.t.All() {
		c.close(t, id)
	}
	if all := c.t.All(); len(all) != 0 {
		t.Errorf("All are %v", all)
	}
}

// Numbers that are no connection's have nothing, and nothing is changed by what is asked of them.
func TestNone(t *testing.T) {
	for name, made := range states() {
		t.Run(name, func(t *testing.T) {
			c := made(t)
			for _, id := range append(strangers(), c.many+1) {
				c.likeNone(t, id)
			}
			for id := 1; id <= c.many; id++ {
				if c.of(id) == nil {
					c.likeNone(t, id)
				}
			}
			c.like(t)
			c.drain(t)
		})
	}
}

// What is closed leaves nothing behind: nobody who comes then has any of it.
func TestNothingIsLeft(t *testing.T) {
	for name, made := range states() {
		t.Run(name, func(t *testing.T) {
			c := made(t)
			for _, id := range c.t.All() {
				c.close(t, id)
				c.likeNone(t, id)
			}
			for range maxConns {
				c.open(t, 7)
			}
			c.drain(t)
		})
	}
}

// P18.1, S2.

func TestFeedOfEachLength(t *testing.T) {
	for _, wait := range []int{0, 1, 2, 255, 256, 510, 511, 512} {
		for _, many := range []int{0, 1, 2, 3, 255, 256, 257, 511, 512, 513, 600, 1024, 70000} {
			c := opened(t, 1)
			c.feed(t, 1, row(0, wait))
			if got, want := c.feed(t, 1, row(wait, many)), min(many, 512-wait); got != want {
				t.Errorf("where %d came: %d of %d", wait, got, many)
			}
			c.feed(t, 1, nil)
			if got, want := c.rest(t, 1, 9999), string(row(0, min(wait+many, 512))); got != want {
				t.Errorf("where %d came, and then %d: %q", wait, many, got)
			}
		}
	}
}

// There is room anew for as many as were taken, by whatever call.
func TestFeedBehindWhatWasTaken(t *testing.T) {
	c := opened(t, 1)
	c.feed(t, 1, slices.Concat(framed([]byte("abc")), row(0, 600)))
	if c.feed(t, 1, []byte("x")) != 0 {
		t.Error("513 bytes")
	}
	c.next(t, 1)
	if many := c.feed(t, 1, []byte("123456")); many != 5 {
		t.Errorf("behind a frame of 5 bytes: %d", many)
	}
	c.rest(t, 1, 2)
	if many := c.feed(t, 1, []byte("xyz")); many != 2 {
		t.Errorf("behind a Rest of 2: %d", many)
	}
	c.drain(t)
}

func TestFeedBehindAnEnd(t *testing.T) {
	for _, wait := range []int{0, 1, 512} {
		c := opened(t, 2)
		c.feed(t, 1, row(0, wait))
		c.half(t, 1)
		for _, many := range []int{0, 1, 512, 513} {
			if got := c.feed(t, 1, row(9, many)); got != 0 {
				t.Errorf("%d of %d came behind an end", got, many)
			}
		}
		if got := c.rest(t, 1, 600); got != string(row(0, wait)) {
			t.Errorf("what came ahead of the end: %q", got)
		}
		if c.feed(t, 1, []byte("a")) != 0 || c.feed(t, 2, []byte("a")) != 1 {
			t.Error("behind an end, when all was taken")
		}
	}
}

func TestNextOfEachLength(t *testing.T) {
	for many := 1; many <= maxFrame; many++ {
		for _, behind := range []string{"", "\xaa", "\xaa\x02a", "\xaa\x01z", "no frame"} {
			c := opened(t, 1)
			b := row(many, many)
			c.feed(t, 1, append(framed(b), behind...))
			if got, is, e := c.next(t, 1); got != string(b) || !is || e != api.OK {
				t.Errorf("Next of %d bytes: %q, %t, %d", many, got, is, e)
			}
			if left := c.t.Came(1); left != len(behind) {
				t.Errorf("behind a frame of %d bytes: %d", many, left)
			}
			c.next(t, 1)
			c.drain(t)
		}
	}
}

func TestNextOne(t *testing.T) {
	for came, want := range map[string]struct {
		has string
		is  bool
		e   api.Errno
	}{
		"":                 {},
		"\xaa":             {},
		"\xaa\x01":         {},
		"\xaa\x02a":        {},
		"\xaa\xc8":         {},
		"\xaa\xaa\xaa\x01": {},
		"\xaa\x01a":        {"a", true, api.OK},
		"\xaa\x01\x00":     {"\x00", true, api.OK},
		"\xaa\x02\xaa\x01": {"\xaa\x01", true, api.OK},
		"\xaa\x01ano":      {"a", true, api.OK},
		"\xaa\x00":         {"", false, api.ErrFrame},
		"\xaa\x00\xaa\x01": {"", false, api.ErrFrame},
		"\xaa\xc9":         {"", false, api.ErrFrame},
		"\xaa\xff":         {"", false, api.ErrFrame},
		"\x00":             {"", false, api.ErrFrame},
		"\xa9\x01a":        {"", false, api.ErrFrame},
		"\xab\x01a":        {"", false, api.ErrFrame},
		"\x01\xaa\x01a":    {"", false, api.ErrFrame},
		"a":                {"", false, api.ErrFrame},
	} {
		for _, ended := range []bool{false, true} {
			c := opened(t, 1)
			c.feed(t, 1, []byte(came))
			if ended { // what came ahead of an end is read yet
				c.half(t, 1)
			}
			if has, is, e := c.next(t, 1); has != want.has || is != want.is || e != want.e {
				t.Errorf("of %q: %q, %t, %d", came, has, is, e)
			}
			if !want.is { // else nothing changed
				if has, is, e := c.next(t, 1); has != "" || is || e != want.e {
					t.Errorf("of %q, once more: %q, %t, %d", came, has, is, e)
				}
				if left := c.rest(t, 1, 9); left != came {
					t.Errorf("of %q there is %q left", came, left)
				}
			}
			c.drain(t)
		}
	}
}

// Each byte but one is wrong as the first one; 0 and those above 200 as the second one.
func TestNextOfEachBeginning(t *testing.T) {
	for b := range 256 {
		c := opened(t, 2)
		c.feed(t, 1, []byte{byte(b)})
		if has, is, e := c.next(t, 1); has != "" || is || (e == api.ErrFrame) != (b != 170) {
			t.Errorf("of %d: %q, %t, %d", b, has, is, e)
		}
		c.feed(t, 2, append([]byte{170, byte(b)}, row(0, 300)...))
		fits := b > 0 && b <= maxFrame
		if has, is, e := c.next(t, 2); len(has) > 0 != fits || is != fits || (e == api.ErrFrame) == fits {
			t.Errorf("of 170 %d: %q, %t, %d", b, has, is, e)
		}
		c.drain(t)
	}
}

// Behind an error a frame is found when what is wrong was taken away.
func TestNextBehindAnError(t *testing.T) {
	c := opened(t, 1)
	c.feed(t, 1, []byte("no\xaa\x02ab"))
	for n, want := range []api.Errno{api.ErrFrame, api.ErrFrame, api.OK} {
		b, is, e := c.next(t, 1)
		if e != want || is != (n == 2) || is && b != "ab" {
			t.Errorf("behind %d: %q, %t, %d", n, b, is, e)
		}
		c.rest(t, 1, 1)
	}
}

// Frames that come in pieces, and stand on the bound of what may wait, come out as they went in.
func TestNextOfPieces(t *testing.T) {
	for piece := 1; piece < 60; piece++ {
		c := opened(t, 1)
		var all, got [][]byte
		var b []byte
		for n := range 40 {
			all = append(all, row(n, 1+n*n%maxFrame))
			b = append(b, framed(all[n])...)
		}
		for len(b) > 0 {
			many := c.feed(t, 1, b[:min(piece, len(b))])
			b = b[many:]
			for {
				has, is, e := c.next(t, 1)
				if e != api.OK {
					t.Fatalf("in pieces of %d: %d", piece, e)
				}
				if !is {
					break
				}
				got = append(got, []byte(has))
			}
		}
		if !slices.EqualFunc(got, all, bytes.Equal) {
			t.Errorf("in pieces of %d: %d frames of %d", piece, len(got), len(all))
		}
	}
}

func TestRestOfEachNumber(t *testing.T) {
	for _, wait := range []int{0, 1, 2, 200, 511, 512} {
		for _, n := range []int{math.MinInt, math.MinInt32, -1 << 32, -2, -1, 0, 1, 2, 3, 199, 511, 512, 513, 1 << 32, math.MaxInt32, math.MaxInt} {
			for _, ended := range []bool{false, true} {
				c := opened(t, 1)
				c.feed(t, 1, row(5, wait))
				if ended {
					c.half(t, 1)
				}
				if got, want := c.rest(t, 1, n), string(row(5, min(max(n, 0), wait))); got != want {
					t.Errorf("Rest of %d, where %d came: %q", n, wait, got)
				}
				c.rest(t, 1, 512)
				c.rest(t, 1, n)
			}
		}
	}
}

// P18.1, S3.

func TestTheExample(t *testing.T) {
	c := conn.New()
	id, _ := c.Open(0)
	if !c.Say(id, []byte("abc")) || !c.Budget(id, 2) {
		t.Error("Say or Budget")
	}
	if b := c.Flush(id); string(b) != "ab" {
		t.Errorf("Flush: %q", b)
	}
	if b := c.Flush(id); len(b) != 0 {
		t.Errorf("Flush, once more: %q", b)
	}
}

// All is said, or nothing.
func TestSayOfEachLength(t *testing.T) {
	for _, wait := range []int{0, 1, 2, 512, 1022, 1023, 1024} {
		for _, many := range []int{0, 1, 2, 3, 511, 512, 513, 1023, 1024, 1025, 2048, 65537} {
			c := opened(t, 1)
			if !c.say(t, 1, row(0, wait)) {
				t.Fatalf("Say of %d", wait)
			}
			fits := wait+many <= 1024
			if is := c.say(t, 1, row(wait, many)); is != fits {
				t.Errorf("where %d wait: Say of %d is %t", wait, many, is)
			}
			if !c.say(t, 1, nil) || !c.say(t, 1, []byte{}) {
				t.Error("nothing is more than there is room for")
			}
			all := wait
			if fits {
				all += many
			}
			c.budget(t, 1, 9999)
			if b := c.flush(t, 1); b != string(row(0, all)) {
				t.Errorf("where %d wait, behind Say of %d: %q", wait, many, b)
			}
		}
	}
}

// There is room anew for as many as went.
func TestSayBehindWhatWent(t *testing.T) {
	c := opened(t, 1)
	c.say(t, 1, row(0, 1024))
	if c.say(t, 1, []byte("a")) {
		t.Error("1025 bytes wait")
	}
	c.budget(t, 1, 3)
	c.flush(t, 1)
	if c.say(t, 1, []byte("abcd")) || !c.say(t, 1, []byte("abc")) || c.say(t, 1, []byte("d")) {
		t.Error("behind 3 that went")
	}
	c.drain(t)
}

func TestBudget(t *testing.T) {
	for n, want := range map[int]bool{
		0: true, 1: true, 2: true, 1024: true, 1<<30 - 1: true, 1 << 30: true,
		-1: false, -2: false, -1 << 30: false, math.MinInt32: false, -1 << 32: false, 1 - 1<<32: false, math.MinInt: false, math.MinInt + 1: false,
		1<<30 + 1: false, 1 << 31: false, math.MaxInt32: false, 1 << 32: false, 1<<32 + 1: false, 1 << 40: false, math.MaxInt: false,
	} {
		for _, has := range []int{0, 1, 5, 1 << 29, 1<<30 - 1, 1 << 30} {
			c := opened(t, 2)
			c.budget(t, 1, has)
			if is := c.budget(t, 1, n); is != want {
				t.Errorf("Budget of %d: %t", n, is)
			}
			credit := has
			if want {
				credit = min(has+n, 1<<30)
			}
			if got := c.t.Credit(1); got != credit {
				t.Errorf("Budget of %d on %d: the credit is %d", n, has, got)
			}
			c.say(t, 1, []byte("ab"))
			c.flush(t, 1)
		}
	}
}

// However often it is let go, no more than the greatest budget is.
func TestTheGreatestCredit(t *testing.T) {
	c := opened(t, 1)
	for range 9 {
		c.budget(t, 1, 1<<30)
	}
	c.say(t, 1, row(0, 1000))
	c.flush(t, 1)
	if got := c.t.Credit(1); got != 1<<30-1000 {
		t.Errorf("the credit is %d", got)
	}
	c.budget(t, 1, 999)
	if got := c.t.Credit(1); got != 1<<30-1 {
		t.Errorf("the credit is %d", got)
	}
	c.budget(t, 1, 2)
	if got := c.t.Credit(1); got != 1<<30 {
		t.Errorf("the credit is %d", got)
	}
}

func TestFlushOfEachCredit(t *testing.T) {
	for _, wait := range []int{0, 1, 2, 3, 511, 1023, 1024} {
		for _, credit := range []int{0, 1, 2, 3, 4, 510, 511, 512, 1023, 1024, 1025, 1 << 30} {
			c := opened(t, 1)
			c.say(t, 1, row(3, wait))
			if b := c.flush(t, 1); b != "" {
				t.Errorf("without credit: %q", b)
			}
			c.budget(t, 1, credit)
			went := min(wait, credit)
			if b := c.flush(t, 1); b != string(row(3, went)) {
				t.Errorf("of %d, with a credit of %d: %q", wait, credit, b)
			}
			if c.t.Waits(1) != wait-went || c.t.Credit(1) != credit-went {
				t.Errorf("of %d, with a credit of %d: %d wait, a credit of %d is left", wait, credit, c.t.Waits(1), c.t.Credit(1))
			}
			if b := c.flush(t, 1); b != "" {
				t.Errorf("once more: %q", b)
			}
			c.drain(t)
		}
	}
}

// A credit that nothing was there for is kept for what is said behind it.
func TestCreditAhead(t *testing.T) {
	c := opened(t, 1)
	c.budget(t, 1, 5)
	c.flush(t, 1)
	c.say(t, 1, []byte("abc"))
	c.say(t, 1, []byte("def"))
	if b := c.flush(t, 1); b != "abcde" {
		t.Errorf("%q", b)
	}
	c.say(t, 1, []byte("gh"))
	c.budget(t, 1, 2)
	if b := c.flush(t, 1); b != "fg" {
		t.Errorf("%q", b)
	}
}

// What came and what waits are apart; a said thing does not come, and a fed one is not sent.
func TestBothWays(t *testing.T) {
	c := opened(t, 1)
	c.budget(t, 1, 99)
	c.feed(t, 1, []byte("\xaa\x01a"))
	if b := c.flush(t, 1); b != "" {
		t.Errorf("what came is sent: %q", b)
	}
	c.say(t, 1, []byte("\xaa\x01b"))
	if b, _, _ := c.next(t, 1); b != "a" {
		t.Errorf("Next: %q", b)
	}
	if b, is, _ := c.next(t, 1); b != "" || is {
		t.Errorf("what is said came: %q", b)
	}
	if b := c.flush(t, 1); b != "\xaa\x01b" {
		t.Errorf("Flush: %q", b)
	}
}

// P18.1, S4.

func TestHalf(t *testing.T) {
	c := opened(t, 3)
	if !c.half(t, 2) || c.half(t, 2) || c.half(t, 2) {
		t.Error("Half")
	}
	if c.t.Ended(1) || !c.t.Ended(2) || c.t.Ended(3) {
		t.Error("Ended")
	}
	if !c.say(t, 2, []byte("abc")) || !c.budget(t, 2, 2) || c.flush(t, 2) != "ab" { // the other way goes on
		t.Error("behind an end")
	}
	if !c.close(t, 2) || c.half(t, 2) {
		t.Error("Close behind an end")
	}
}

// P18.2: numbers rise; what was closed never comes again.
func TestNeverAgain(t *testing.T) {
	for seed := range uint32(20) {
		draw := drawer(seed)
		c := conn.New()
		last := 0
		gone := map[int]bool{}
		var open []int
		for range 1000 {
			if draw(3) > 0 {
				full := len(open) == maxConns
				id, e := c.Open(uint32(draw(1000)))
				if full {
					if id != 0 || e != api.ErrTooMany {
						t.Fatalf("seed %d: %d, %d, where there are too many", seed, id, e)
					}
					continue
				}
				if id != last+1 || e != api.OK || gone[id] {
					t.Fatalf("seed %d: %d, %d, behind %d", seed, id, e, last)
				}
				last, open = id, append(open, id)
			} else if len(open) > 0 {
				at := draw(len(open))
				if !c.Close(open[at]) {
					t.Fatalf("seed %d: Close of %d", seed, open[at])
				}
				gone[open[at]] = true
				open = slices.Delete(open, at, at+1)
			}
			if !slices.Equal(c.All(), open) {
				t.Fatalf("seed %d: All are %v, not %v", seed, c.All(), open)
			}
		}
		for id := range gone {
			if c.Has(id) || c.Close(id) {
				t.Fatalf("seed %d: %d is there", seed, id)
			}
		}
	}
}

// Also when all are closed, again and again.
func TestNeverAgainOfOne(t *testing.T) {
	c := newConns(t)
	for i := range 300 {
		if id := c.open(t, 1); id != i+1 {
			t.Fatalf("the %dth is %d", i+1, id)
		}
		c.close(t, i+1)
	}
	for id := range 300 {
		c.likeNone(t, id+1)
	}
}

// P18.3: what is done of one changes nothing of another one.
func TestApart(t *testing.T) {
	for seed := range uint32(150) {
		draw, noise := drawer(seed), drawer(seed*7+1)
		alone, among := conn.New(), conn.New()
		var others []int
		at := int(seed % 8)
		var id, other int
		for i := range 8 {
			n, _ := among.Open(uint32(i))
			if i == at {
				id = n
			} else {
				others = append(others, n)
			}
		}
		for range at + 1 { // of the same number there
			other, _ = alone.Open(uint32(at))
		}
		for turn := range 200 {
			for range 3 {
				others = disturb(among, others, noise)
			}
			kind, n := draw(8), draw(20)
			if got, want := told(among, id, kind, n), told(alone, other, kind, n); got != want {
				t.Fatalf("seed %d, turn %d, call %d of %d: %q, not %q", seed, turn, kind, n, got, want)
			}
			if among.Came(id) != alone.Came(other) || among.Waits(id) != alone.Waits(other) || among.Credit(id) != alone.Credit(other) || among.Ended(id) != alone.Ended(other) || among.Room(id) != alone.Room(other) || !among.Has(id) || among.Addr(id) != uint32(at) {
				t.Fatalf("seed %d, turn %d: what %d has", seed, turn, id)
			}
		}
	}
}

// told does a call of a connection, and tells what it answered.
func told(c *conn.Table, id int, kind int, n int) string {
	yes := map[bool]string{true: "yes"}
	switch kind {
	case 0:
		return string(row(0, c.Feed(id, framed(row(n, n+1)))))
	case 1:
		b, is, e := c.Next(id)
		return string(b) + yes[is] + e.Error()
	case 2:
		return string(c.Rest(id, n/8))
	case 3:
		return yes[c.Say(id, row(n, n*9))]
	case 4:
		return yes[c.Budget(id, n*5)]
	case 5:
		return string(c.Flush(id))
	case 6:
		return yes[n == 7 && c.Half(id)]
	default:
		return yes[c.Budget(id, -n)]
	}
}

// disturb does something of others, one of which may be closed, or come: those that are there then.
func disturb(c *conn.Table, others []int, draw func(int) int) []int {
	if len(others) > 0 && draw(20) == 0 {
		c.Close(others[0])
		others = others[1:]
	}
	if draw(10) == 0 {
		if id, e := c.Open(uint32(draw(9) + 1000)); e == api.OK {
			others = append(others, id)
		}
	}
	if len(others) > 0 {
		told(c, others[draw(len(others))], draw(7), draw(20))
	}
	told(c, -draw(3), draw(8), draw(20))
	return others
}

// P18.4: what is sent is a beginning of what was said, and never more than was let go.
func TestCredit(t *testing.T) {
	for seed := range uint32(200) {
		draw := drawer(seed + 3000)
		c := conn.New()
		id, _ := c.Open(0)
		var said, sent []byte
		let := 0
		for range 300 {
			switch draw(4) {
			case 0:
				if b := row(draw(251), draw(400)); c.Say(id, b) {
					said = append(said, b...)
				}
			case 1:
				if n := draw(300) - 20; c.Budget(id, n) {
					let += n
				}
			default:
				sent = append(sent, c.Flush(id)...)
			}
			if !bytes.HasPrefix(said, sent) || len(sent) > let {
				t.Fatalf("seed %d: %d bytes are sent, %d were said, %d let go", seed, len(sent), len(said), let)
			}
			if c.Waits(id) != len(said)-len(sent) || c.Credit(id) != let-len(sent) {
				t.Fatalf("seed %d: %d wait, the credit is %d", seed, c.Waits(id), c.Credit(id))
			}
		}
		c.Budget(id, maxOut)
		if sent = append(sent, c.Flush(id)...); !bytes.Equal(sent, said) {
			t.Fatalf("seed %d: with credit for all, %d of %d are sent", seed, len(sent), len(said))
		}
	}
}

// All of it, in turns, next to what the chapter says.
func TestMixed(t *testing.T) {
	for seed := range uint32(60) {
		draw := drawer(seed + 70000)
		c := opened(t, draw(4))
		for range 400 {
			id := draw(c.many+2) + min(0, 3-draw(9))
			if len(c.are) > 0 && draw(4) > 0 {
				id = c.are[draw(len(c.are))].id
			}
			c.mixed(t, draw, id)
		}
		c.drain(t)
	}
}

// mixed does one call that is drawn, of that number.
func (c *conns) mixed(t *testing.T, draw func(int) int, id int) {
	t.Helper()
	switch draw(16) {
	case 0:
		if draw(3) == 0 {
			c.close(t, id)
		}
	case 1:
		if draw(2) == 0 {
			c.open(t, uint32(draw(1<<20)))
		}
	case 2:
		if draw(8) == 0 {
			c.half(t, id)
		}
	case 3, 4:
		c.feed(t, id, framed(row(draw(251), 1+draw(maxFrame))))
	case 5:
		c.feed(t, id, row(169+draw(3), draw(5)))
	case 6, 7, 8:
		c.next(t, id)
	case 9:
		c.rest(t, id, draw(30)-2)
	case 10, 11:
		c.say(t, id, row(draw(251), draw(500)))
	case 12:
		c.budget(t, id, draw(400)-20)
	case 13:
		c.budget(t, id, maxBudget-1+draw(3))
	default:
		c.flush(t, id)
	}
}

// P3: what is handed in stays as it is, its spare room too, and is not kept; what comes out shares nothing with the table, nor with what else comes out.

func TestWhatIsHandedInStaysAsItIs(t *testing.T) {
	b := row(168, 900)
	for many := range 300 {
		c := conn.New()
		id, _ := c.Open(0)
		c.Feed(id, b[2:many+2])
		c.Say(id, b[:many])
		c.Budget(id, many)
		c.Next(id)
		c.Rest(id, 9)
		c.Feed(id, b[:many*3])
		c.Flush(id)
		c.Say(id, b[:many*3])
		c.Half(id)
		c.Feed(id, b[:many])
		c.Say(-1, b[:many])
		c.Feed(-1, b[:many])
		if !bytes.Equal(b, row(168, 900)) {
			t.Fatalf("of %d: what was handed in became %q", many, b)
		}
	}
}

func TestWhatIsHandedInIsNotKept(t *testing.T) {
	for _, ahead := range []int{0, 1, 100, 500, 510} {
		c := opened(t, 1)
		c.feed(t, 1, row(0, ahead)) // so that it stands at many places of what may come
		c.rest(t, 1, ahead)
		b := append(make([]byte, 0, 40), "\xaa\x03abcdef"...)
		c.feed(t, 1, b)
		overwrite(b)
		if got, is, e := c.next(t, 1); got != "abc" || !is || e != api.OK {
			t.Errorf("Next: %q, %t, %d", got, is, e)
		}
		if got := c.rest(t, 1, 9); got != "def" {
			t.Errorf("Rest: %q", got)
		}
		b = append(make([]byte, 0, 40), "abcdef"...)
		c.say(t, 1, b)
		overwrite(b)
		c.budget(t, 1, 9)
		if got := c.flush(t, 1); got != "abcdef" {
			t.Errorf("Flush: %q", got)
		}
	}
}

func TestWhatComesOutIsNew(t *testing.T) {
	c := conn.New()
	id, _ := c.Open(0)
	c.Open(0)
	c.Feed(id, []byte("\xaa\x03abcdefghi"))
	c.Say(id, []byte("uvwxyz"))
	c.Budget(id, 3)
	has, _, _ := c.Next(id)
	rest, sent, all := c.Rest(id, 3), c.Flush(id), c.All()
	for _, b := range [][]byte{has, rest, sent} {
		overwrite(b)
	}
	all[0] = 9
	c.Budget(id, 3)
	if left, last := c.Rest(id, 9), c.Flush(id); string(left) != "ghi" || string(last) != "xyz" {
		t.Errorf("%q and %q are left", left, last)
	}
	c.Feed(id, row(0, 600)) // in the places of those that were taken
	c.Say(id, row(0, 1024))
	for _, b := range [][]byte{has, rest, sent} {
		if string(b) != "!!!" {
			t.Errorf("what came out became %q", b)
		}
	}
	if got := c.All(); !slices.Equal(got, []int{1, 2}) || all[0] != 9 {
		t.Errorf("All are %v, and were %v", got, all)
	}
}

// Two tables have nothing in common.
func TestTwoTables(t *testing.T) {
	a, b := opened(t, 2), opened(t, 3)
	for i := range 200 {
		draw := drawer(uint32(i))
		a.mixed(t, draw, 1+i%3)
		b.mixed(t, drawer(uint32(i*3+1)), 1+i%2)
		a.like(t)
	}
	for range 5 {
		a.open(t, 1)
	}
	if id := b.open(t, 2); id != b.many {
		t.Errorf("%d", id)
	}
	for _, id := range a.t.All() {
		a.close(t, id)
	}
	b.like(t)
	b.drain(t)
}
