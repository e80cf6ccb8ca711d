package pair_test

import (
	"math"
	"slices"
	"testing"

	"subway/api"
	"subway/pair"
)

// couples is a table, and what the chapter says of it: all that were ever a pair, in the order in which they were joined, and which of these are one yet.
type couples struct {
	t    *pair.Table
	ever []couple
}

type couple struct {
	visitor, caller int
	parted          bool
}

func newCouples(t *testing.T) *couples {
	t.Helper()
	p := pair.New()
	if p == nil {
		t.Fatal("there is no table")
	}
	return &couples{t: p}
}

// of is where the pair stands in which one was ever, -1 if there was none.
func (c *couples) of(id int) int {
	return slices.IndexFunc(c.ever, func(x couple) bool { return x.visitor == id || x.caller == id })
}

// other is who one is paired with, 0 if with nobody.
func (c *couples) other(id int) int {
	at := c.of(id)
	switch {
	case at < 0 || c.ever[at].parted:
		return 0
	case c.ever[at].visitor == id:
		return c.ever[at].caller
	default:
		return c.ever[at].visitor
	}
}

// all is the pairs, put one by one where they belong.
func (c *couples) all() []api.Pair {
	var out []api.Pair
	for _, x := range c.ever {
		if x.parted {
			continue
		}
		at := 0
		for at < len(out) && out[at].Visitor < x.visitor {
			at++
		}
		out = slices.Insert(out, at, api.Pair{Visitor: x.visitor, Caller: x.caller})
	}
	return out
}

// spoil writes into a list that came out, and its spare room (P3): the table is the same behind it.
func spoil(ps []api.Pair) {
	ps = ps[:cap(ps)]
	for i := range ps {
		ps[i] = api.Pair{Visitor: -77, Caller: 1}
	}
}

// like holds all that the table tells against what it should: all pairs, who the other one is and who ever was in one, also of some that never were; twice: to ask changes nothing.
func (c *couples) like(t *testing.T) {
	t.Helper()
	for range 2 {
		got, want := c.t.All(), c.all()
		if !slices.Equal(got, want) {
			t.Fatalf("%v are pairs, not %v", got, want)
		}
		spoil(got)
		for _, x := range c.ever {
			c.likeOne(t, x.visitor)
			c.likeOne(t, x.caller)
		}
		for _, id := range append(wrongIds(), greatIds()...) {
			c.likeOne(t, id)
		}
	}
}

func (c *couples) likeOne(t *testing.T, id int) {
	t.Helper()
	want := c.other(id)
	if other, is := c.t.Other(id); other != want || is != (want > 0) {
		t.Fatalf("the other one of %d: %d, %t, not %d", id, other, is, want)
	}
	if was := c.t.Was(id); was != (c.of(id) >= 0) {
		t.Fatalf("%d was in a pair: %t", id, was)
	}
}

func (c *couples) join(t *testing.T, visitor int, caller int) api.Errno {
	t.Helper()
	want := api.OK
	switch {
	case visitor <= 0, caller <= 0, visitor == caller:
		want = api.ErrArg
	case c.of(visitor) >= 0, c.of(caller) >= 0:
		want = api.ErrThere
	default:
		c.ever = append(c.ever, couple{visitor: visitor, caller: caller})
	}
	if e := c.t.Join(visitor, caller); e != want {
		t.Fatalf("Join of %d and %d: %d, not %d", visitor, caller, e, want)
	}
	c.likeOne(t, visitor)
	c.likeOne(t, caller)
	c.like(t)
	return want
}

func (c *couples) part(t *testing.T, id int) (int, bool) {
	t.Helper()
	want := c.other(id)
	if want > 0 {
		c.ever[c.of(id)].parted = true
	}
	if other, is := c.t.Part(id); other != want || is != (want > 0) {
		t.Fatalf("Part of %d: %d, %t, not %d", id, other, is, want)
	}
	c.likeOne(t, id)
	c.like(t)
	return want, want > 0
}

// has holds all pairs against such as are written out, by turns a visitor and a caller.
func (c *couples) has(t *testing.T, ids ...int) {
	t.Helper()
	var want []api.Pair
	for i := 0; i < len(ids); i += 2 {
		want = append(want, api.Pair{Visitor: ids[i], Caller: ids[i+1]})
	}
	if got := c.t.All(); !slices.Equal(got, want) {
		t.Errorf("%v are pairs, not %v", got, want)
	}
}

func wrongIds() []int {
	return []int{0, -1, -2, -5, math.MinInt32, math.MinInt32 - 1, -1 << 32, math.MinInt, math.MinInt + 1}
}

// greatIds are ids that are right; none is there twice.
func greatIds() []int {
	return []int{math.MaxInt, math.MaxInt - 1, 1 << 40, 1<<40 + 1, math.MaxInt32, math.MaxInt32 + 1, math.MaxUint32, 1<<32 + 1}
}

// drawer draws numbers below one.
func drawer(seed uint32) func(int) int {
	return func(below int) int {
		seed = seed*1664525 + 1013904223
		return int(seed>>8) % below
	}
}
