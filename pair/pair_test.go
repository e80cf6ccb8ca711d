package pair_test

import (
	"slices"
	"testing"

	"subway/api"
	"subway/pair"
)

// joined is one with the pairs 5 6, 2 9, 8 3 (whose visitor is greater than its caller) and, parted, 4 7 and 12 11: by its visitor, and by its caller.
func joined(t *testing.T) *couples {
	t.Helper()
	c := newCouples(t)
	for _, p := range [][2]int{{5, 6}, {4, 7}, {2, 9}, {12, 11}, {8, 3}} {
		if e := c.join(t, p[0], p[1]); e != api.OK {
			t.Fatal(p, e)
		}
	}
	c.part(t, 4)
	c.part(t, 11)
	c.has(t, 2, 9, 5, 6, 8, 3)
	return c
}

// P16.1, Q1.

func TestANewOne(t *testing.T) {
	c := newCouples(t)
	c.like(t)
	c.has(t)
	for _, id := range append(append(wrongIds(), greatIds()...), 1, 2, 3) {
		if other, is := c.part(t, id); other != 0 || is {
			t.Errorf("Part of %d: %d, %t", id, other, is)
		}
		if c.t.Was(id) {
			t.Errorf("%d was in a pair", id)
		}
	}
	c.has(t)
}

func TestTheExample(t *testing.T) {
	c := newCouples(t)
	c.join(t, 1, 2)
	c.part(t, 1)
	if e := c.join(t, 1, 3); e != api.ErrThere {
		t.Error(e)
	}
}

func TestJoin(t *testing.T) {
	c := newCouples(t)
	for _, x := range []struct {
		visitor, caller int
		want            api.Errno
	}{
		{5, 6, api.OK}, {2, 9, api.OK}, {8, 3, api.OK}, {1, 10, api.OK}, {12, 11, api.OK},
		{0, 20, api.ErrArg}, {20, 0, api.ErrArg}, {20, 20, api.ErrArg},
		{5, 20, api.ErrThere}, {20, 6, api.ErrThere}, {6, 20, api.ErrThere}, {20, 5, api.ErrThere},
		{5, 6, api.ErrThere}, {6, 5, api.ErrThere}, {5, 9, api.ErrThere}, {6, 2, api.ErrThere},
		{20, 21, api.OK}, {21, 20, api.ErrThere},
	} {
		if e := c.join(t, x.visitor, x.caller); e != x.want {
			t.Errorf("%d and %d: %d", x.visitor, x.caller, e)
		}
	}
	c.has(t, 1, 10, 2, 9, 5, 6, 8, 3, 12, 11, 20, 21)
}

// The least ids, and the greatest ones, as visitors and as callers.
func TestJoinOfTheLeastAndTheGreatest(t *testing.T) {
	ids := append(greatIds(), 1, 2)
	for _, a := range ids {
		for _, b := range ids {
			c, want := newCouples(t), api.OK
			if a == b {
				want = api.ErrArg
			}
			if e := c.join(t, a, b); e != want {
				t.Errorf("%d and %d: %d", a, b, e)
			}
			if want != api.OK {
				c.has(t)
				continue
			}
			c.has(t, a, b)
			if other, is := c.part(t, b); other != a || !is {
				t.Errorf("Part of %d: %d, %t", b, other, is)
			}
			c.has(t)
		}
	}
}

// Each of these ids alone is wrong, beside whatever the other one is: also one that is in a pair, or was in one.
func TestJoinOfAWrongId(t *testing.T) {
	c := joined(t)
	for _, id := range wrongIds() {
		for _, beside := range append(wrongIds(), 1, 20, 2, 9, 8, 3, 4, 7, 12, 11) {
			for _, p := range [][2]int{{id, beside}, {beside, id}} {
				if e := c.join(t, p[0], p[1]); e != api.ErrArg {
					t.Errorf("%v: %d", p, e)
				}
			}
		}
	}
	c.has(t, 2, 9, 5, 6, 8, 3)
	if e := c.join(t, 1, 20); e != api.OK { // what was refused had them be in no pair
		t.Error(e)
	}
}

// One beside itself, whatever it is.
func TestJoinOfOneWithItself(t *testing.T) {
	c := joined(t)
	for _, id := range append(append(greatIds(), wrongIds()...), 1, 10, 2, 9, 8, 3, 4, 7, 12, 11) {
		if e := c.join(t, id, id); e != api.ErrArg {
			t.Errorf("%d: %d", id, e)
		}
	}
	c.has(t, 2, 9, 5, 6, 8, 3)
	if e := c.join(t, 10, 1); e != api.OK {
		t.Error(e)
	}
}

// One that is in a pair, or was, as a visitor or as a caller, beside a new one, at each place.
func TestJoinOfOneThatIsThere(t *testing.T) {
	for _, id := range []int{5, 6, 2, 9, 8, 3, 4, 7, 12, 11} {
		for _, fresh := range append(greatIds(), 1, 10, 13) {
			c := joined(t)
			if e := c.join(t, id, fresh); e != api.ErrThere {
				t.Errorf("%d as the visitor, of %d: %d", id, fresh, e)
			}
			if e := c.join(t, fresh, id); e != api.ErrThere {
				t.Errorf("%d as the caller, for %d: %d", id, fresh, e)
			}
			c.has(t, 2, 9, 5, 6, 8, 3)
			if c.t.Was(fresh) {
				t.Errorf("%d was in a pair, with %d", fresh, id)
			}
			if e := c.join(t, fresh, 20); e != api.OK {
				t.Errorf("%d, refused with %d, and joined with 20: %d", fresh, id, e)
			}
		}
	}
}

// Both of them were, or are, in the same pair or in two.
func TestJoinOfTwoThatAreThere(t *testing.T) {
	c := joined(t)
	ids := []int{5, 6, 2, 9, 8, 3, 4, 7, 12, 11}
	for _, a := range ids {
		for _, b := range ids {
			if e := c.join(t, a, b); a != b && e != api.ErrThere {
				t.Errorf("%d and %d: %d", a, b, e)
			}
		}
	}
	c.has(t, 2, 9, 5, 6, 8, 3)
}

// Who is told an error was in no pair by that: it may be in one then, as a visitor or as a caller.
func TestRefusedOnesAreNew(t *testing.T) {
	for _, x := range []struct{ visitor, caller, fresh int }{
		{20, 0, 20}, {0, 20, 20}, {20, -1, 20}, {-1, 20, 20}, {20, 20, 20}, {20, 5, 20}, {20, 6, 20}, {5, 20, 20}, {6, 20, 20}, {20, 4, 20}, {7, 20, 20}, {1, 11, 1}, {12, 1, 1},
	} {
		for _, visits := range []bool{true, false} {
			c := joined(t)
			if e := c.join(t, x.visitor, x.caller); e == api.OK {
				t.Fatal(x)
			}
			if other, is := c.t.Other(x.fresh); other != 0 || is || c.t.Was(x.fresh) {
				t.Errorf("%v: %d, %t", x, other, is)
			}
			if other, is := c.part(t, x.fresh); other != 0 || is {
				t.Errorf("%v, parted: %d, %t", x, other, is)
			}
			visitor, caller := x.fresh, 30
			if !visits {
				visitor, caller = caller, visitor
			}
			if e := c.join(t, visitor, caller); e != api.OK {
				t.Errorf("%v, then %d and %d: %d", x, visitor, caller, e)
			}
		}
	}
}

// P16.1, Q2.

func TestPart(t *testing.T) {
	c := joined(t)
	for _, x := range []struct {
		id, other int
		is        bool
	}{
		{1, 0, false}, {4, 0, false}, {7, 0, false}, {11, 0, false}, {12, 0, false}, {0, 0, false}, {-5, 0, false}, {1<<32 + 5, 0, false},
		{5, 6, true}, {5, 0, false}, {6, 0, false},
		{9, 2, true}, {2, 0, false}, {9, 0, false},
		{3, 8, true}, {8, 0, false}, {3, 0, false},
	} {
		if other, is := c.part(t, x.id); other != x.other || is != x.is {
			t.Errorf("Part of %d: %d, %t", x.id, other, is)
		}
	}
	c.has(t)
}

// Each of several pairs, parted by each of its two: the others are as they were.
func TestPartOfEach(t *testing.T) {
	pairs := [][2]int{{5, 6}, {2, 9}, {8, 3}, {1, 10}, {12, 11}}
	for out := range pairs {
		for side := range 2 {
			c := newCouples(t)
			for _, p := range pairs {
				c.join(t, p[0], p[1])
			}
			if other, is := c.part(t, pairs[out][side]); other != pairs[out][1-side] || !is {
				t.Errorf("Part of %d: %d, %t", pairs[out][side], other, is)
			}
			for i, p := range pairs {
				for side, id := range p {
					if other, is := c.t.Other(id); is != (i != out) || is && other != p[1-side] {
						t.Errorf("without %v, the other one of %d: %d, %t", pairs[out], id, other, is)
					}
					if !c.t.Was(id) {
						t.Errorf("without %v, %d never was in a pair", pairs[out], id)
					}
				}
			}
			if many := len(c.t.All()); many != len(pairs)-1 {
				t.Errorf("without %v there are %d", pairs[out], many)
			}
		}
	}
}

func TestOther(t *testing.T) {
	c := joined(t)
	for _, x := range []struct {
		id, other int
		is        bool
	}{
		{5, 6, true}, {6, 5, true}, {2, 9, true}, {9, 2, true}, {8, 3, true}, {3, 8, true},
		{4, 0, false}, {7, 0, false}, {12, 0, false}, {11, 0, false}, {1, 0, false}, {10, 0, false}, {0, 0, false}, {-6, 0, false}, {1<<32 + 6, 0, false},
	} {
		for range 2 {
			if other, is := c.t.Other(x.id); other != x.other || is != x.is {
				t.Errorf("the other one of %d: %d, %t", x.id, other, is)
			}
		}
	}
}

// Who is in a pair was ever in one; who parts was, too, and who was left by the other one.
func TestWas(t *testing.T) {
	c := joined(t)
	for id, want := range map[int]bool{
		5: true, 6: true, 2: true, 9: true, 8: true, 3: true, 4: true, 7: true, 12: true, 11: true,
		1: false, 10: false, 13: false, 0: false, -2: false, 1<<32 + 2: false,
	} {
		for range 2 {
			if c.t.Was(id) != want {
				t.Errorf("%d was in a pair: %t", id, !want)
			}
		}
	}
	for _, id := range []int{5, 2, 3} {
		c.part(t, id)
	}
	for id := 2; id <= 12; id++ {
		if was := c.t.Was(id); was != (id != 10) {
			t.Errorf("%d was in a pair: %t", id, was)
		}
	}
}

// P16.1, Q3.

// Pairs that are joined in any order come out by rising visitors, whatever their callers are.
func TestAllByRisingVisitors(t *testing.T) {
	want := []int{1, 50, 3, 2, 10, 40, 20, 30, 1 << 40, 5}
	for seed := range uint32(300) {
		draw, c := drawer(seed), newCouples(t)
		left := []int{0, 1, 2, 3, 4}
		for len(left) > 0 {
			at := draw(len(left))
			i := left[at]
			left = slices.Delete(left, at, at+1)
			c.join(t, want[2*i], want[2*i+1])
		}
		c.has(t, want...)
		c.part(t, 30)
		c.has(t, 1, 50, 3, 2, 10, 40, 1<<40, 5)
		c.part(t, 1)
		c.has(t, 3, 2, 10, 40, 1<<40, 5)
	}
}

func TestAllOfMany(t *testing.T) {
	c := pair.New()
	const many = 5000
	for i := range many {
		if e := c.Join(1+i*7919%many, many+1+i); e != api.OK {
			t.Fatal(i, e)
		}
	}
	all := c.All()
	if len(all) != many {
		t.Fatal(len(all))
	}
	for i, p := range all {
		if other, is := c.Other(p.Caller); p.Visitor != 1+i || other != p.Visitor || !is {
			t.Fatalf("%d: %v, %d, %t", i, p, other, is)
		}
	}
}

// P16.2: each is in one pair at most; the other one's other one is oneself. P16.3: who was in a pair is never in another one.

// oneAnother holds P16.2 and P16.3 of whatever was joined, by what the table tells alone: ever is with whom each was first told to be.
func oneAnother(t *testing.T, p *pair.Table, ever map[int]int) {
	t.Helper()
	seen := map[int]bool{}
	for _, x := range p.All() {
		for id, want := range map[int]int{x.Visitor: x.Caller, x.Caller: x.Visitor} {
			if seen[id] {
				t.Fatalf("%d is in two pairs", id)
			}
			seen[id] = true
			other, is := p.Other(id)
			if other != want || !is || !p.Was(id) {
				t.Fatalf("the other one of %d: %d, %t, not %d", id, other, is, want)
			}
			if first, was := ever[id]; was && first != other {
				t.Fatalf("%d was in a pair with %d, and is with %d", id, first, other)
			}
			ever[id] = other
		}
	}
	for id := -3; id < 60; id++ {
		if other, is := p.Other(id); is != seen[id] || !is && other != 0 {
			t.Fatalf("the other one of %d, that is in no pair: %d, %t", id, other, is)
		}
		if _, was := ever[id]; p.Was(id) != was {
			t.Fatalf("%d was in a pair: %t", id, !was)
		}
	}
}

func TestOneAnotherAndOnce(t *testing.T) {
	for seed := range uint32(300) {
		draw, p, ever := drawer(seed), pair.New(), map[int]int{}
		over := map[int]bool{} // whose pair is none any more
		for range 150 {
			a, b := draw(62)-2, draw(62)-2
			if draw(3) > 0 {
				if e := p.Join(a, b); e == api.OK && (over[a] || over[b]) {
					t.Fatalf("seed %d: %d and %d, of which one was in a pair", seed, a, b)
				}
			} else if other, is := p.Part(a); is {
				over[a], over[other] = true, true
			}
			oneAnother(t, p, ever)
			for id := range over {
				if other, is := p.Other(id); other != 0 || is || !p.Was(id) {
					t.Fatalf("seed %d: %d is with %d, %t", seed, id, other, is)
				}
			}
		}
	}
}

// Nothing that comes behind it has one that was in a pair be in another one.
func TestOnceForAll(t *testing.T) {
	c := newCouples(t)
	c.join(t, 1, 2)
	c.part(t, 2)
	for id := 3; id < 100; id += 2 {
		c.join(t, id, id+1)
		for _, old := range []int{1, 2} {
			if c.join(t, old, id+2) != api.ErrThere || c.join(t, id+2, old) != api.ErrThere {
				t.Fatal(old, id)
			}
		}
		c.part(t, id+id/2%2)
	}
	if c.join(t, 1, 2) != api.ErrThere || c.join(t, 2, 1) != api.ErrThere {
		t.Error("both are a pair once more")
	}
	c.has(t)
}

// All of it, in turns, next to what the chapter says.
func TestMixed(t *testing.T) {
	for seed := range uint32(150) {
		draw, c := drawer(seed+1000), newCouples(t)
		id := func() int {
			switch draw(12) {
			case 0:
				return wrongIds()[draw(len(wrongIds()))]
			case 1:
				return greatIds()[draw(len(greatIds()))]
			default:
				return 1 + draw(30)
			}
		}
		for range 80 {
			switch draw(3) {
			case 0:
				c.part(t, id())
			default:
				c.join(t, id(), id())
			}
		}
	}
}

// P3.

// What is handed back may be written into, and its spare room: what comes out next is the same.
func TestAnswersAreNewMemory(t *testing.T) {
	c := joined(t)
	first, second := c.t.All(), c.t.All()
	spoil(first)
	if !slices.Equal(second, c.all()) {
		t.Error(second)
	}
	c.like(t)
	c.part(t, 5)
	kept := c.t.All()
	c.join(t, 20, 21)
	c.part(t, 2)
	if !slices.Equal(kept, []api.Pair{{Visitor: 2, Caller: 9}, {Visitor: 8, Caller: 3}}) {
		t.Errorf("a list that came out is %v then", kept)
	}
	spoil(kept)
	c.has(t, 8, 3, 20, 21)
}

// Two tables have nothing in common.
func TestTwoTables(t *testing.T) {
	a, b := newCouples(t), newCouples(t)
	a.join(t, 1, 2)
	b.join(t, 2, 3)
	a.part(t, 2)
	b.has(t, 2, 3)
	if e := b.join(t, 1, 4); e != api.OK {
		t.Error(e)
	}
	if e := a.join(t, 3, 4); e != api.OK {
		t.Error(e)
	}
	a.has(t, 3, 4)
	b.has(t, 1, 4, 2, 3)
	a.like(t)
	b.like(t)
}
