package conn_test

import (
	"bytes"
	"math"
	"slices"
	"testing"

	"subway/api"
	"subway/conn"
)

// The bounds of the chapter.
const (
	maxConns  = 64
	maxIn     = 512
	maxOut    = 1024
	maxBudget = 1 << 30
	maxFrame  = 200
)

// conns is a table, and what the chapter says of it: how many connections there were; those that there are, by rising numbers.
type conns struct {
	t    *conn.Table
	many int
	are  []*one
}

// one is a connection: an address, what came and was not taken, what waits to be sent, a credit, whether it has ended.
type one struct {
	id     int
	addr   uint32
	came   []byte
	waits  []byte
	credit int
	ended  bool
}

func newConns(t *testing.T) *conns {
	t.Helper()
	c := conn.New()
	if c == nil {
		t.Fatal("there is no table")
	}
	return &conns{t: c}
}

// opened is a table of so many connections.
func opened(t *testing.T, many int) *conns {
	t.Helper()
	c := newConns(t)
	for i := range many {
		c.open(t, uint32(i)*1000003)
	}
	return c
}

// of is a connection, nil if there is none of that number.
func (c *conns) of(id int) *one {
	for _, o := range c.are {
		if o.id == id {
			return o
		}
	}
	return nil
}

// like holds all that the table tells against what it should, twice: to ask changes nothing.
func (c *conns) like(t *testing.T) {
	t.Helper()
	for range 2 {
		c.likeAll(t)
		for _, o := range c.are {
			c.likeOne(t, o.id)
		}
		for _, id := range []int{0, -1, c.many + 1, c.many + 2} {
			c.likeOne(t, id)
		}
	}
}

func (c *conns) likeAll(t *testing.T) {
	t.Helper()
	var want []int
	for _, o := range c.are {
		want = append(want, o.id)
	}
	got := c.t.All()
	if !slices.Equal(got, want) {
		t.Fatalf("All are %v, not %v", got, want)
	}
	got = got[:cap(got)]
	for i := range got {
		got[i] = -77 // what comes out is new (P3)
	}
}

func (c *conns) likeOne(t *testing.T, id int) {
	t.Helper()
	o, has, room := one{}, false, 0
	if p := c.of(id); p != nil {
		o, has, room = *p, true, maxOut-len(p.waits)
	}
	if got := c.t.Has(id); got != has {
		t.Fatalf("Has of %d: %t", id, got)
	}
	if got := c.t.Addr(id); got != o.addr {
		t.Fatalf("Addr of %d: %d, not %d", id, got, o.addr)
	}
	if got := c.t.Came(id); got != len(o.came) {
		t.Fatalf("Came of %d: %d, not %d", id, got, len(o.came))
	}
	if waits, more := c.t.Waits(id), c.t.Room(id); waits != len(o.waits) || more != room {
		t.Fatalf("of %d %d wait, not %d, and there is room for %d, not %d", id, waits, len(o.waits), more, room)
	}
	if got := c.t.Credit(id); got != o.credit {
		t.Fatalf("Credit of %d: %d, not %d", id, got, o.credit)
	}
	if got := c.t.Ended(id); got != o.ended {
		t.Fatalf("Ended of %d: %t", id, got)
	}
}

// likeNone holds that a number which is no connection's has nothing and does nothing, whatever is asked of it.
func (c *conns) likeNone(t *testing.T, id int) {
	t.Helper()
	c.likeOne(t, id)
	b := []byte("\xaa\x01a")
	for _, n := range []int{math.MinInt, -1, 0, 1, 3, maxBudget, math.MaxInt} {
		if c.t.Feed(id, b) != 0 || c.t.Say(id, b) || c.t.Say(id, nil) || c.t.Budget(id, n) || c.t.Half(id) || c.t.Close(id) {
			t.Fatalf("something was done of %d, that is no connection's", id)
		}
		if rest, sent := c.t.Rest(id, n), c.t.Flush(id); len(rest) != 0 || len(sent) != 0 {
			t.Fatalf("of %d, that is no connection's: Rest of %d %q, Flush %q", id, n, rest, sent)
		}
		if b, is, e := c.t.Next(id); len(b) != 0 || is || e != api.OK {
			t.Fatalf("of %d, that is no connection's: Next %q, %t, %d", id, b, is, e)
		}
	}
	c.likeOne(t, id)
}

func (c *conns) open(t *testing.T, addr uint32) int {
	t.Helper()
	id, e := c.t.Open(addr)
	if len(c.are) == maxConns {
		if id != 0 || e != api.ErrTooMany {
			t.Fatalf("Open of one too many: %d, %d", id, e)
		}
		c.like(t)
		return 0
	}
	c.many++
	if id != c.many || e != api.OK {
		t.Fatalf("Open: %d, %d, not %d", id, e, c.many)
	}
	c.are = append(c.are, &one{id: id, addr: addr})
	c.like(t)
	return id
}

func (c *conns) close(t *testing.T, id int) bool {
	t.Helper()
	want := c.of(id) != nil
	if is := c.t.Close(id); is != want {
		t.Fatalf("Close of %d: %t", id, is)
	}
	c.are = slices.DeleteFunc(c.are, func(o *one) bool { return o.id == id })
	c.likeOne(t, id)
	c.like(t)
	return want
}

func (c *conns) feed(t *testing.T, id int, b []byte) int {
	t.Helper()
	o, want := c.of(id), 0
	if o != nil && !o.ended {
		want = min(len(b), maxIn-len(o.came))
		o.came = append(o.came, b[:want]...)
	}
	if many := c.t.Feed(id, b); many != want {
		t.Fatalf("Feed of %d, %d bytes: %d, not %d", id, len(b), many, want)
	}
	c.like(t)
	return want
}

// first is what the chapter of frames says that bytes begin with: how many a frame there has, 0 if none is whole; or that it can be none.
func first(b []byte) (int, api.Errno) {
	switch {
	case len(b) > 0 && b[0] != 170, len(b) > 1 && (b[1] == 0 || b[1] > maxFrame):
		return 0, api.ErrFrame
	case len(b) > 1 && len(b) >= 2+int(b[1]):
		return int(b[1]), api.OK
	}
	return 0, api.OK
}

func (c *conns) next(t *testing.T, id int) (string, bool, api.Errno) {
	t.Helper()
	var want []byte
	wrong := api.OK
	if o := c.of(id); o != nil {
		has, e := first(o.came)
		if has > 0 {
			want, o.came = o.came[2:2+has], o.came[2+has:]
		}
		wrong = e
	}
	b, is, e := c.t.Next(id)
	if !bytes.Equal(b, want) || is != (len(want) > 0) || e != wrong {
		t.Fatalf("Next of %d: %.99q, %t, %d, not %.99q, %d", id, b, is, e, want, wrong)
	}
	overwrite(b)
	c.like(t)
	return string(want), is, e
}

func (c *conns) rest(t *testing.T, id int, n int) string {
	t.Helper()
	var want []byte
	if o := c.of(id); o != nil {
		many := min(max(n, 0), len(o.came))
		want, o.came = o.came[:many], o.came[many:]
	}
	b := c.t.Rest(id, n)
	if !bytes.Equal(b, want) {
		t.Fatalf("Rest of %d, %d: %.99q, not %.99q", id, n, b, want)
	}
	overwrite(b)
	c.like(t)
	return string(want)
}

func (c *conns) say(t *testing.T, id int, b []byte) bool {
	t.Helper()
	o := c.of(id)
	want := o != nil && len(o.waits)+len(b) <= maxOut
	if is := c.t.Say(id, b); is != want {
		t.Fatalf("Say of %d, %d bytes: %t", id, len(b), is)
	}
	if want {
		o.waits = append(o.waits, b...)
	}
	c.like(t)
	return want
}

func (c *conns) budget(t *testing.T, id int, n int) bool {
	t.Helper()
	o := c.of(id)
	want := o != nil && n >= 0 && n <= maxBudget
	if is := c.t.Budget(id, n); is != want {
		t.Fatalf("Budget of %d, %d: %t", id, n, is)
	}
	if want {
		o.credit = int(min(int64(o.credit)+int64(n), maxBudget))
	}
	c.like(t)
	return want
}

func (c *conns) flush(t *testing.T, id int) string {
	t.Helper()
	var want []byte
	if o := c.of(id); o != nil {
		many := min(len(o.waits), o.credit)
		want, o.waits = o.waits[:many], o.waits[many:]
		o.credit -= many
	}
	b := c.t.Flush(id)
	if !bytes.Equal(b, want) {
		t.Fatalf("Flush of %d: %.99q, not %.99q", id, b, want)
	}
	overwrite(b)
	c.like(t)
	return string(want)
}

func (c *conns) half(t *testing.T, id int) bool {
	t.Helper()
	o := c.of(id)
	want := o != nil && !o.ended
	if is := c.t.Half(id); is != want {
		t.Fatalf("Half of %d: %t", id, is)
	}
	if want {
		o.ended = true
	}
	c.like(t)
	return want
}

// drain takes all that came and all that waits, of each connection: so what these are is seen, and not only how many.
func (c *conns) drain(t *testing.T) {
	t.Helper()
	for _, o := range c.are {
		c.rest(t, o.id, maxIn)
		c.budget(t, o.id, maxOut)
		c.flush(t, o.id)
	}
}

// row is many bytes, of which the first is that number: no two of 251 beside each other are alike.
func row(from int, many int) []byte {
	b := make([]byte, many)
	for i := range b {
		b[i] = byte((from + i) % 251)
	}
	return b
}

// framed is the frame of bytes.
func framed(b []byte) []byte {
	return slices.Concat([]byte{170, byte(len(b))}, b)
}

// overwrite writes over a list, its spare room too.
func overwrite(b []byte) {
	b = b[:cap(b)]
	for i := range b {
		b[i] = '!'
	}
}

// drawer draws numbers below one.
func drawer(seed uint32) func(int) int {
	return func(below int) int {
		seed = seed*1664525 + 1013904223
		return int(seed>>8) % below
	}
}
