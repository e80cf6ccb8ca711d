package clock_test

import (
	"cmp"
	"math"
	"slices"
	"testing"

	"subway/api"
	"subway/clock"
)

// The latest time, the latest at which an alarm may go, and how many alarms there may be.
const (
	lastTime  = 1 << 40
	lastAlarm = 1 << 41
	most      = 1024
)

// watch is a clock, and what the chapter says of it: the time, and when each alarm goes.
type watch struct {
	c   *clock.Clock
	now int64
	at  map[int]int64
}

func start() *watch {
	return &watch{c: clock.New(), at: map[int]int64{}}
}

// full is one with as many alarms as may be, of which 0 goes first.
func full(t *testing.T) *watch {
	t.Helper()
	w := start()
	for id := range most {
		w.set(t, id, int64(1+id))
	}
	return w
}

// asked asks all that can be asked, of all alarms that are, and of these numbers; twice: to ask changes nothing.
func (w *watch) asked(t *testing.T, ids ...int) {
	t.Helper()
	for range 2 {
		if now, many := w.c.Now(), w.c.Many(); now != w.now || many != len(w.at) {
			t.Fatalf("Now is %d, Many is %d, not %d, %d", now, many, w.now, len(w.at))
		}
		for id, want := range w.at {
			if at, is := w.c.At(id); at != want || !is {
				t.Fatalf("at %d: At %d is %d, %t, not %d, true", w.now, id, at, is, want)
			}
		}
		for _, id := range ids {
			want, there := w.at[id]
			if at, is := w.c.At(id); at != want || is != there {
				t.Fatalf("at %d: At %d is %d, %t, not %d, %t", w.now, id, at, is, want, there)
			}
		}
	}
}

func (w *watch) set(t *testing.T, id int, at int64) {
	t.Helper()
	want := api.OK
	_, there := w.at[id]
	switch {
	case at <= w.now || at > lastAlarm:
		want = api.ErrArg
	case !there && len(w.at) == most:
		want = api.ErrTooMany
	default:
		w.at[id] = at
	}
	if err := w.c.Set(id, at); err != want {
		t.Fatalf("at %d, with %d alarms: Set %d at %d is %d, not %d", w.now, len(w.at), id, at, err, want)
	}
	w.asked(t, id)
}

func (w *watch) drop(t *testing.T, id int) {
	t.Helper()
	_, want := w.at[id]
	delete(w.at, id)
	if got := w.c.Drop(id); got != want {
		t.Fatalf("at %d: Drop %d is %t, not %t", w.now, id, got, want)
	}
	w.asked(t, id)
}

// tick has time pass, by which the time is not more than it may be: what went.
func (w *watch) tick(t *testing.T, n int64) []int {
	t.Helper()
	w.now += n
	want := w.due(w.now)
	got, err := w.c.Tick(n)
	if err != api.OK || !slices.Equal(got, want) {
		t.Fatalf("Tick %d, to %d, is %v, %d, not %v", n, w.now, got, err, want)
	}
	for _, id := range want {
		delete(w.at, id)
	}
	w.asked(t, want...)
	return got
}

func (w *watch) wrongTick(t *testing.T, n int64) {
	t.Helper()
	if got, err := w.c.Tick(n); err != api.ErrArg || len(got) != 0 {
		t.Fatalf("at %d: Tick %d is %v, %d", w.now, n, got, err)
	}
	w.asked(t)
}

// due is which alarms' time is up to that, in order.
func (w *watch) due(now int64) []int {
	var ids []int
	for id, at := range w.at {
		if at <= now {
			ids = append(ids, id)
		}
	}
	slices.SortFunc(ids, func(one, other int) int {
		return cmp.Or(cmp.Compare(w.at[one], w.at[other]), cmp.Compare(one, other))
	})
	return ids
}

// wantTick has time pass, and holds what went against a row that is written out.
func (w *watch) wantTick(t *testing.T, n int64, want ...int) {
	t.Helper()
	if got := w.tick(t, n); !slices.Equal(got, want) {
		t.Fatalf("Tick %d, to %d, is %v, not %v", n, w.now, got, want)
	}
}

// orders are all orders of so many numbers, from 0 on.
func orders(many int) [][]int {
	all := [][]int{{}}
	for next := range many {
		var more [][]int
		for _, one := range all {
			for at := range len(one) + 1 {
				more = append(more, slices.Insert(slices.Clone(one), at, next))
			}
		}
		all = more
	}
	return all
}

// drawer draws numbers below one.
func drawer(seed uint32) func(int) int {
	return func(below int) int {
		seed = seed*1664525 + 1013904223
		return int(seed>>8) % below
	}
}

// P8.1, H1 and H3.

func TestANewOne(t *testing.T) {
	w := start()
	w.asked(t, 0, 1, -1, math.MinInt, math.MaxInt)
	w.drop(t, 0)
	w.wantTick(t, 0)
	w.wantTick(t, 1)
}

func TestTheExample(t *testing.T) {
	w := start()
	w.set(t, 7, 3)
	w.set(t, 5, 3)
	w.wantTick(t, 4, 5, 7)
}

func TestWhenAnAlarmMayGo(t *testing.T) {
	for _, now := range []int64{0, 1, 2, 1000, lastTime - 1, lastTime} {
		wrong := []int64{now, now - 1, now - 2, 0, -1, -now, -lastAlarm, math.MinInt64, math.MinInt64 + 1, lastAlarm + 1, lastAlarm + 2, 1 << 42, 1 << 62, math.MaxInt64 - 1, math.MaxInt64}
		right := []int64{now + 1, now + 2, now + 1000, lastTime + 1, lastAlarm - 1, lastAlarm}
		w := start()
		w.tick(t, now)
		for i, at := range wrong {
			w.set(t, i, at)
		}
		if len(w.at) != 0 {
			t.Errorf("at %d: there are %d alarms", now, len(w.at))
		}
		for i, at := range right {
			w.set(t, i, at)
			w.set(t, -1, at)
			for _, at := range wrong {
				w.set(t, -1, at) // what is refused leaves it as it is
				w.set(t, 100, at)
			}
		}
		if len(w.at) != len(right)+1 {
			t.Errorf("at %d: there are %d alarms", now, len(w.at))
		}
	}
}

func TestAnyNumber(t *testing.T) {
	ids := []int{0, 1, -1, 2, -2, 1023, 1024, 1 << 31, -1 << 31, 1<<32 + 1, 1 << 40, -1 << 41, math.MaxInt, math.MinInt, math.MaxInt - 1, math.MinInt + 1}
	w := start()
	for _, id := range ids {
		w.set(t, id, 5)
		w.set(t, id, 5)
	}
	w.asked(t, ids...)
	w.wantTick(t, 4)
	slices.Sort(ids)
	w.wantTick(t, 1, ids...)
	for i, id := range ids {
		w.set(t, id, 6+int64(i%2))
	}
	for _, id := range ids[5:] {
		w.drop(t, id)
		w.drop(t, id)
	}
	w.wantTick(t, 2, ids[0], ids[2], ids[4], ids[1], ids[3])
}

func TestAsManyAsMayBe(t *testing.T) {
	w := full(t)
	for _, id := range []int{most, -1, 2000, math.MinInt} {
		w.set(t, id, 1)
		w.set(t, id, lastAlarm)
		w.set(t, id, 0) // the time is what is wrong first
		w.set(t, id, lastAlarm+1)
		w.drop(t, id)
	}
	for _, id := range []int{0, 7, most / 2, most - 1} {
		w.set(t, id, 5000) // it is one of those that are
		w.set(t, id, 0)
		w.set(t, id, 5000)
	}
	w.drop(t, 7)
	w.set(t, -1, 1)
	w.set(t, 7, 1)
	w.drop(t, -1)
	w.set(t, 7, 1)
	w.set(t, -1, 2)
	if got := w.tick(t, most); len(got) != most-3 || got[0] != 7 || got[1] != 1 {
		t.Errorf("%d go", len(got))
	}
	for id := range most - 3 {
		w.set(t, -10-id, 3000)
	}
	w.set(t, 1, 3000)
	if got := w.tick(t, 5000); len(got) != most || got[0] != -10-(most-4) {
		t.Errorf("%d go", len(got))
	}
}

func TestDropOfOneThatIsNotThere(t *testing.T) {
	w := start()
	for id := -3; id < 10; id++ {
		w.drop(t, id)
	}
	for id := range 5 {
		w.set(t, id, int64(3+id%2))
	}
	for _, id := range []int{-1, 5, 6, 3, 3, -1, math.MaxInt, math.MinInt} {
		w.drop(t, id)
	}
	w.wantTick(t, 3, 0, 2, 4)
	for id := -1; id < 6; id++ {
		w.drop(t, id) // of these only 1 is there yet
		w.drop(t, id)
	}
	w.wantTick(t, 10)
}

// P8.1, H2.

func TestTickOfNone(t *testing.T) {
	w := start()
	w.tick(t, 0)
	w.set(t, 1, 1)
	w.wantTick(t, 0)
	w.wantTick(t, 1, 1)
	w.wantTick(t, 0)
	w.set(t, 1, 2)
	w.wantTick(t, 0)
	w.tick(t, lastTime-1)
	w.set(t, 1, lastTime+1)
	w.wantTick(t, 0)
	w.wantTick(t, 0)
}

func TestTickJustToAnAlarmAndOneLess(t *testing.T) {
	for _, from := range []int64{0, 1, 77, lastTime - 40} {
		for _, in := range []int64{1, 2, 3, 39, 40} {
			w := start()
			w.tick(t, from)
			w.set(t, 4, from+in)
			w.set(t, 3, from+in+1)
			w.wantTick(t, in-1)
			w.wantTick(t, 1, 4)
			w.wantTick(t, 0)
			w.drop(t, 4)
			if w.now < lastTime {
				w.wantTick(t, 1, 3)
			}
		}
	}
}

func TestTheLatestTime(t *testing.T) {
	for _, steps := range [][]int64{{lastTime}, {1, lastTime - 1}, {lastTime - 1, 1}, {lastTime / 2, lastTime / 2}, {0, lastTime - 2, 1, 1}} {
		w := start()
		w.set(t, 1, lastTime-2)
		w.set(t, 2, lastTime)
		w.set(t, 3, lastTime+1)
		w.set(t, 4, lastAlarm)
		for _, n := range steps {
			w.tick(t, n)
		}
		w.asked(t, 1, 2, 3, 4)
		if w.now != lastTime || len(w.at) != 2 {
			t.Errorf("by %v: at %d there are %d alarms", steps, w.now, len(w.at))
		}
		w.wrongTick(t, 1)
		w.wantTick(t, 0)
		w.set(t, 5, lastTime)
		w.set(t, 5, lastTime+1)
		w.drop(t, 3)
	}
}

func TestTicksThatMayNotBe(t *testing.T) {
	for _, now := range []int64{0, 1, 5, lastTime / 2, lastTime - 1, lastTime} {
		w := start()
		w.tick(t, now)
		w.set(t, 1, now+1)
		w.set(t, 2, lastAlarm)
		for _, n := range []int64{-1, -2, -now - 1, -lastTime, -lastAlarm, math.MinInt32, math.MinInt64, math.MinInt64 + 1, lastTime - now + 1, lastTime - now + 2, lastTime + 1, lastAlarm, 1 << 62, math.MaxInt64 - lastTime, math.MaxInt64 - now, math.MaxInt64 - 1, math.MaxInt64} {
			w.wrongTick(t, n)
		}
		if now > 0 {
			w.wrongTick(t, -now)
			w.wrongTick(t, lastTime)
		}
		w.tick(t, lastTime-now)
	}
}

// P8.2.

func TestOneTimeLesserNumbersFirst(t *testing.T) {
	for many := range 7 {
		for _, order := range orders(many) {
			w := start()
			for _, id := range order {
				w.set(t, id-3, 9)
			}
			want := []int{-3, -2, -1, 0, 1, 2}[:many]
			w.wantTick(t, 8)
			w.wantTick(t, 1, want...)
			w.wantTick(t, 100)
		}
	}
}

// Six alarms of three times, that are set in all orders.
func TestRisingTimesFirst(t *testing.T) {
	for _, order := range orders(6) {
		w, steps := start(), start()
		for _, id := range order {
			w.set(t, id, int64(30-10*(id/2)))
			steps.set(t, id, int64(30-10*(id/2)))
		}
		w.wantTick(t, 50, 4, 5, 2, 3, 0, 1)
		steps.wantTick(t, 9)
		steps.wantTick(t, 1, 4, 5)
		steps.wantTick(t, 19, 2, 3)
		steps.wantTick(t, 31, 0, 1)
	}
}

// The same alarms, and the same time, in one step and in two, and one by one.
func TestTwoStepsGoAsOne(t *testing.T) {
	for seed := range uint32(20) {
		draw := drawer(seed)
		at := map[int]int64{}
		for range 1 + draw(12) {
			at[draw(30)-15] = int64(1 + draw(20))
		}
		set := func() *watch {
			w := start()
			for id, at := range at {
				w.set(t, id, at)
			}
			return w
		}
		for n := range int64(23) {
			want := set().tick(t, n)
			for first := range n + 1 {
				w := set()
				if got := append(w.tick(t, first), w.tick(t, n-first)...); !slices.Equal(got, want) {
					t.Fatalf("in %d and %d: %v, not %v", first, n-first, got, want)
				}
			}
			w := set()
			var got []int
			for range n {
				got = append(got, w.tick(t, 1)...)
			}
			if !slices.Equal(got, want) {
				t.Fatalf("one by one, up to %d: %v, not %v", n, got, want)
			}
		}
	}
}

func TestEachGoesOnce(t *testing.T) {
	w := full(t)
	times := map[int]int{}
	for range 300 {
		for _, id := range w.tick(t, 5) {
			times[id]++
		}
	}
	for id := range most {
		if times[id] != 1 {
			t.Errorf("%d goes %d times", id, times[id])
		}
	}
	if len(times) != most {
		t.Errorf("%d go", len(times))
	}
}

// P8.3. Each of a few alarms is dropped, or set anew, at each time, behind all the orders in which they may have been set.

func TestWhatIsDroppedDoesNotGo(t *testing.T) {
	for _, order := range orders(5) {
		for id := range 5 {
			w := start()
			for _, id := range order {
				w.set(t, id, int64(5+id/2))
			}
			w.drop(t, id)
			want := slices.DeleteFunc([]int{0, 1, 2, 3, 4}, func(one int) bool { return one == id })
			w.wantTick(t, 20, want...)
		}
	}
}

func TestWhatIsSetAnewGoesAtItsNewTimeAlone(t *testing.T) {
	for _, order := range orders(4) {
		for id := range 4 {
			for anew := range int64(12) { // 0 is refused
				w := start()
				for _, id := range order {
					w.set(t, id, int64(2+3*(id/2)))
				}
				w.set(t, id, anew)
				went := 0
				for range 14 {
					for _, one := range w.tick(t, 1) {
						if one != id {
							continue
						}
						went++
						if anew != 0 && w.now != anew {
							t.Errorf("%d goes at %d, not %d", id, w.now, anew)
						}
					}
				}
				if went != 1 {
					t.Errorf("%d goes %d times", id, went)
				}
			}
		}
	}
}

func TestSetAgainBehindItWent(t *testing.T) {
	w := start()
	for i := range int64(50) {
		w.set(t, 8, 3*i+1)
		w.set(t, 9, 3*i+3)
		w.wantTick(t, 2, 8)
		w.set(t, 8, 3*i+1) // that time is over
		w.wantTick(t, 1, 9)
	}
	w.wantTick(t, 1000)
}

func TestSetAgainBehindItWasDropped(t *testing.T) {
	w := start()
	for _, id := range []int{1, 2, 3} {
		w.set(t, id, 10)
	}
	w.drop(t, 2)
	w.set(t, 2, 12)
	w.drop(t, 3)
	w.drop(t, 1)
	w.set(t, 1, 12)
	w.wantTick(t, 11)
	w.wantTick(t, 1, 1, 2)
}

// P8.1 to P8.3, in mixed rows of calls, with few alarms, and with as many as may be and more; wrong ones between the others.

func TestMixedScripts(t *testing.T) {
	for seed := range uint32(60) {
		draw := drawer(seed)
		ids, times := 1+draw(40), 1+draw(60)
		w := start()
		for range 400 {
			id := draw(ids) - ids/2
			switch draw(8) {
			case 0, 1, 2:
				w.set(t, id, w.now+int64(1+draw(times)))
			case 3:
				w.set(t, id, w.now-int64(draw(3)))
			case 4, 5:
				w.drop(t, id)
			case 6:
				w.wrongTick(t, -int64(1+draw(times)))
			default:
				w.tick(t, int64(draw(times)/2))
			}
		}
		w.tick(t, 1000)
		if len(w.at) != 0 {
			t.Errorf("%d alarms are left", len(w.at))
		}
	}
}

func TestMixedScriptsOfMany(t *testing.T) {
	for seed := range uint32(2) {
		draw := drawer(seed)
		w := full(t)
		for range 1500 {
			id := draw(most + 60)
			switch draw(9) {
			case 0:
				w.drop(t, id)
			case 1:
				w.tick(t, int64(draw(3)))
			default:
				w.set(t, id, w.now+int64(1+draw(900)))
			}
		}
		w.tick(t, 3000)
	}
}

// P3, of this layer's calls: what Tick tells is new memory, its spare room too. What one clock has is none of another one's.

func TestWhatTickTellsIsNew(t *testing.T) {
	w := full(t)
	var told, want [][]int
	for _, n := range []int64{1, 2, 3, 5, 8, 100, 0, 7, 1} {
		l := w.tick(t, n)
		told, want = append(told, l), append(want, slices.Clone(l))
		again := w.tick(t, n) // this one is written over
		all := again[:cap(again)]
		for i := range all {
			all[i] = -7
		}
		w.asked(t, -7)
		for id := range 4 {
			w.set(t, 2000+id, w.now+3)
		}
	}
	for i := range told {
		if !slices.Equal(told[i], want[i]) {
			t.Errorf("what Tick told became %v", told[i])
		}
	}
	w.tick(t, 5000)
}

func TestTwoClocksAreApart(t *testing.T) {
	one, other := start(), start()
	for i := range 60 {
		one.set(t, i%7, one.now+int64(1+i%5))
		other.set(t, i%5, other.now+int64(1+i%3))
		one.tick(t, int64(i%3))
		other.drop(t, i%4)
		other.tick(t, int64(i%2))
		one.asked(t, 0, 1, 2, 3, 4, 5, 6)
		other.asked(t, 0, 1, 2, 3, 4, 5, 6)
	}
}
