package queue_test

import (
	"fmt"
	"slices"
	"testing"
	"unsafe"

	"subway/api"
	"subway/queue"
)

// waiting is a line in which these wait: 1, 3, 5, 7 for web, 2, 6 for ftp, 4 for the empty name; they came in turns.
func waiting(t *testing.T) *line {
	t.Helper()
	l := newLine(t)
	for id, name := range []string{1: "web", 2: "ftp", 3: "web", 4: "", 5: "web", 6: "ftp", 7: "web"} {
		if id > 0 && l.put(t, name, id) != api.OK {
			t.Fatal(id)
		}
	}
	l.has(t, "web", 1, 3, 5, 7)
	l.has(t, "ftp", 2, 6)
	l.has(t, "", 4)
	return l
}

// full is one in which 8 wait for each of 8 names, in turns: for the name k these are k, k+8 .. k+56, and 0 waits, too.
func full(t *testing.T) *line {
	t.Helper()
	l := newLine(t)
	for id := range mostOfAll {
		if l.put(t, names(8)[id%8], id) != api.OK {
			t.Fatal(id)
		}
	}
	return l
}

// P14.1, N1.

func TestANewOne(t *testing.T) {
	l := newLine(t)
	l.like(t)
	for _, name := range append(strangeNames(), "web", "a") {
		if id, is := l.take(t, name); id != 0 || is {
			t.Errorf("Take of %q: %d, %t", name, id, is)
		}
		l.has(t, name)
	}
	for _, id := range append(strangeIds(), 1, 2, 64) {
		if l.drop(t, id) {
			t.Errorf("%d waited", id)
		}
	}
	if l.q.Many() != 0 {
		t.Error(l.q.Many())
	}
}

func TestTheExample(t *testing.T) {
	l := newLine(t)
	l.put(t, "web", 1)
	l.put(t, "web", 2)
	l.drop(t, 1)
	if id, is := l.take(t, "web"); id != 2 || !is {
		t.Error(id, is)
	}
}

func TestPut(t *testing.T) {
	l := waiting(t)
	for _, x := range []struct {
		name string
		id   int
		want api.Errno
	}{
		{"web", 8, api.OK}, {"new", 9, api.OK}, {"", 10, api.OK}, {"web", 0, api.OK}, {"ftp", -1, api.OK},
		{"web", 1, api.ErrThere}, {"web", 7, api.ErrThere}, {"web", 8, api.ErrThere}, {"ftp", 1, api.ErrThere}, {"none", 1, api.ErrThere},
		{"web", 4, api.ErrThere}, {"", 4, api.ErrThere}, {"", 6, api.ErrThere}, {"web", 0, api.ErrThere}, {"none", -1, api.ErrThere},
	} {
		if e := l.put(t, x.name, x.id); e != x.want {
			t.Errorf("%v: %d", x, e)
		}
	}
	l.has(t, "web", 1, 3, 5, 7, 8, 0)
	l.has(t, "ftp", 2, 6, -1)
	l.has(t, "", 4, 10)
	l.has(t, "new", 9)
	l.has(t, "none")
	if l.q.Many() != 12 {
		t.Error(l.q.Many())
	}
}

// Whatever is a text is a name, and whatever is a number may wait.
func TestAnyNameAndAnyId(t *testing.T) {
	for _, name := range strangeNames() {
		for _, id := range strangeIds() {
			l := waiting(t)
			if e := l.put(t, name, id); e != api.OK {
				t.Errorf("Put of %d for %q: %d", id, name, e)
			}
			if got, is := l.q.Where(id); got != name || !is {
				t.Errorf("%d waits for %q, %t", id, got, is)
			}
			if e := l.put(t, "web", id); e != api.ErrThere {
				t.Errorf("Put of %d, that waits: %d", id, e)
			}
			if name == "" {
				l.take(t, name) // 4 came ahead of it
			}
			if got, is := l.take(t, name); got != id || !is {
				t.Errorf("Take of %q: %d, %t", name, got, is)
			}
			l.has(t, name)
		}
	}
	l := newLine(t)
	for i, id := range strangeIds() {
		l.put(t, names(2)[i%2], id)
	}
	for _, id := range strangeIds() {
		if !l.drop(t, id) {
			t.Errorf("%d did not wait", id)
		}
	}
}

// Names that are near one another are not one.
func TestNamesAreHeldAsTheyStand(t *testing.T) {
	l := newLine(t)
	near := []string{"a", "A", " a", "a ", "aa", "a\x00", "\x00a", "", "\x00", "\xe9", "é", "e\xcc\x81"}
	for id, name := range near {
		l.put(t, name, id)
	}
	for id, name := range near {
		l.has(t, name, id)
	}
}

func TestAsManyAsMayWaitForOneName(t *testing.T) {
	for _, name := range []string{"web", "", "A b"} {
		for _, less := range []func(l *line){
			func(l *line) { l.take(t, name) }, func(l *line) { l.drop(t, 7) }, func(l *line) { l.drop(t, 3) }, func(l *line) { l.drop(t, 0) },
		} {
			l := newLine(t)
			for id := range mostOfOne + 3 {
				want := api.OK
				if id >= mostOfOne {
					want = api.ErrTooMany
				}
				if e := l.put(t, name, id); e != want {
					t.Errorf("%d waits, ahead of it %d: %d", id, l.q.Many(), e)
				}
			}
			l.has(t, name, 0, 1, 2, 3, 4, 5, 6, 7)
			if e := l.put(t, name+"x", 100); e != api.OK {
				t.Errorf("for another name than %q: %d", name, e)
			}
			less(l) // there is a place for one
			for id, want := range map[int]api.Errno{8: api.OK, 100: api.ErrThere} {
				if e := l.put(t, name, id); e != want {
					t.Errorf("%d, as the last one: %d", id, e)
				}
			}
			if e := l.put(t, name, 9); e != api.ErrTooMany {
				t.Errorf("9, behind the last one: %d", e)
			}
			if row := l.q.List(name); len(row) != mostOfOne || row[7] != 8 {
				t.Errorf("for %q %v wait", name, row)
			}
		}
	}
}

func TestAsManyAsMayWaitInAll(t *testing.T) {
	refused := func(l *line, name string) {
		t.Helper()
		for id := 100; id < 103; id++ {
			if e := l.put(t, name, id); e != api.ErrTooMany {
				t.Errorf("with %d who wait one more waits for %q: %d", l.q.Many(), name, e)
			}
		}
	}
	l := full(t)
	for _, name := range append(names(12), "", "web") {
		refused(l, name)
	}
	l.take(t, names(8)[3]) // there is a place for one, but not in a row of 8
	refused(l, names(8)[2])
	if e := l.put(t, names(8)[3], 70); e != api.OK {
		t.Error(e)
	}
	refused(l, "web")

	l = full(t)
	l.drop(t, 20)
	if e := l.put(t, "web", 71); e != api.OK {
		t.Error(e)
	}
	refused(l, "web")         // has a row, of one
	refused(l, names(8)[4])   // has one of seven
	refused(l, names(9)[8])   // has none
	refused(l, names(8)[5])   // has one of eight
	l.take(t, "web")          // whose row is empty then
	l.put(t, names(9)[8], 20) // that was dropped
	refused(l, "web")

	l = newLine(t)
	for id, name := range names(mostOfAll) {
		if e := l.put(t, name, id); e != api.OK {
			t.Errorf("%d, for %s: %d", id, name, e)
		}
	}
	refused(l, names(65)[64])
	refused(l, names(1)[0])
	for _, name := range names(mostOfAll) {
		l.take(t, name)
	}
	if l.q.Many() != 0 {
		t.Error(l.q.Many())
	}
	for id := range mostOfAll {
		if e := l.put(t, fmt.Sprint(id/8), id); e != api.OK {
			t.Errorf("%d, behind all: %d", id, e)
		}
	}
	refused(l, "8")
}

// One who waits already, where there are too many: that it waits is told.
func TestWhichErrorOfAPut(t *testing.T) {
	l := full(t)
	for id := range mostOfAll {
		for _, name := range []string{names(8)[id%8], names(8)[(id+1)%8], "none", ""} {
			if e := l.put(t, name, id); e != api.ErrThere {
				t.Errorf("%d, for %q: %d", id, name, e)
			}
		}
	}
	l = newLine(t)
	for id := range mostOfOne {
		l.put(t, "web", id)
	}
	l.put(t, "ftp", 10)
	for _, x := range []struct {
		name string
		id   int
		want api.Errno
	}{{"web", 0, api.ErrThere}, {"web", 7, api.ErrThere}, {"web", 10, api.ErrThere}, {"ftp", 3, api.ErrThere}, {"web", 11, api.ErrTooMany}, {"ftp", 11, api.OK}} {
		if e := l.put(t, x.name, x.id); e != x.want {
			t.Errorf("%v: %d", x, e)
		}
	}
}

// P14.1, N2.

func TestTake(t *testing.T) {
	l := waiting(t)
	for i, x := range []struct {
		name string
		id   int
		is   bool
	}{
		{"web", 1, true}, {"ftp", 2, true}, {"none", 0, false}, {"web", 3, true}, {"", 4, true}, {"", 0, false}, {"web", 5, true}, {"ftp", 6, true},
		{"ftp", 0, false}, {"ftp", 0, false}, {"web", 7, true}, {"web", 0, false}, {"", 0, false}, {"we", 0, false}, {"web ", 0, false},
	} {
		if id, is := l.take(t, x.name); id != x.id || is != x.is {
			t.Errorf("%d: Take of %q: %d, %t", i, x.name, id, is)
		}
	}
}

// What 0 is that is taken, the bool tells.
func TestTakeOfZero(t *testing.T) {
	l := newLine(t)
	l.put(t, "web", 0)
	if id, is := l.take(t, "web"); id != 0 || !is {
		t.Error(id, is)
	}
	if id, is := l.take(t, "web"); id != 0 || is {
		t.Error(id, is)
	}
}

// Each place of a row of each length, dropped: the others stay in their order.
func TestDrop(t *testing.T) {
	for long := 1; long <= mostOfOne; long++ {
		for out := range long {
			l := newLine(t)
			var want []int
			for id := range long {
				l.put(t, "web", 10+id)
				l.put(t, "ftp", 20+id)
				if id != out {
					want = append(want, 10+id)
				}
			}
			if !l.drop(t, 10+out) || l.drop(t, 10+out) {
				t.Errorf("of %d, %d is dropped another time than once", long, out)
			}
			l.has(t, "web", want...)
			for _, id := range want {
				if got, is := l.take(t, "web"); got != id || !is {
					t.Errorf("of %d, without %d: %d, %t, not %d", long, out, got, is, id)
				}
			}
			l.has(t, "web")
		}
	}
	l := waiting(t)
	for _, x := range []struct {
		id  int
		was bool
	}{{8, false}, {0, false}, {-1, false}, {3, true}, {3, false}, {1 << 32, false}, {1<<32 + 1, false}, {4, true}, {4, false}, {7, true}, {2, true}, {6, true}, {1, true}, {5, true}, {5, false}} {
		if was := l.drop(t, x.id); was != x.was {
			t.Errorf("Drop of %d: %t", x.id, was)
		}
	}
	if l.q.Many() != 0 {
		t.Error(l.q.Many())
	}
}

// One who waits no more, whichever way, may wait anew: at the end, for that name or for another one.
func TestPutAnew(t *testing.T) {
	for _, goes := range []func(l *line){
		func(l *line) { l.take(t, "web") },
		func(l *line) { l.drop(t, 1) },
	} {
		for name, want := range map[string][]int{"web": {3, 5, 7, 1}, "ftp": {2, 6, 1}, "": {4, 1}, "new": {1}} {
			l := waiting(t)
			goes(l)
			l.drop(t, 1)
			if e := l.put(t, name, 1); e != api.OK {
				t.Errorf("for %q: %d", name, e)
			}
			l.has(t, name, want...)
			if e := l.put(t, "other", 1); e != api.ErrThere {
				t.Errorf("for %q: %d", name, e)
			}
			goes(l)
			l.take(t, name)
			l.take(t, "web")
		}
	}
}

// A row that has become empty is none; one that comes anew has nothing of it.
func TestARowAnew(t *testing.T) {
	for _, name := range []string{"web", ""} {
		for round := range 3 {
			l := newLine(t)
			l.put(t, "ftp", 99)
			for range 20 {
				for id := range mostOfOne {
					l.put(t, name, id)
				}
				l.put(t, name, 50)
				for id := range mostOfOne {
					switch {
					case round == 0, round == 2 && id%2 == 0:
						l.take(t, name)
					case round == 1:
						l.drop(t, mostOfOne-1-id)
					default:
						l.drop(t, id)
					}
				}
				l.has(t, name)
				l.has(t, "ftp", 99)
				if id, is := l.take(t, name); id != 0 || is {
					t.Errorf("%q, round %d: %d, %t", name, round, id, is)
				}
			}
		}
	}
}

// P14.1, N3.

func TestWhere(t *testing.T) {
	l := waiting(t)
	for id, name := range map[int]string{1: "web", 2: "ftp", 3: "web", 4: "", 5: "web", 6: "ftp", 7: "web"} {
		if got, is := l.q.Where(id); got != name || !is {
			t.Errorf("%d waits for %q, %t", id, got, is)
		}
	}
	for _, id := range append(strangeIds(), 8, 9, 100) {
		if got, is := l.q.Where(id); got != "" || is {
			t.Errorf("%d waits for %q, %t", id, got, is)
		}
	}
}

func TestMany(t *testing.T) {
	l := newLine(t)
	for id := range 100 {
		l.put(t, names(9)[id*5%9], id)
		if l.q.Many() != min(id+1, mostOfAll) {
			t.Errorf("behind %d: %d", id, l.q.Many())
		}
	}
	for id := range 100 {
		l.drop(t, id)
		if l.q.Many() != max(mostOfAll-1-id, 0) {
			t.Errorf("without %d: %d", id, l.q.Many())
		}
	}
}

// P14.2: of each row that is drawn, whoever goes from between, those who are taken came in that order, each once.

func TestInOrder(t *testing.T) {
	for seed := range uint32(200) {
		draw, l := drawer(seed), newLine(t)
		came, last := 0, map[string]int{}
		for range 200 {
			name := names(4)[draw(4)]
			switch draw(3) {
			case 0:
				if l.q.Put(name, came) != api.OK {
					t.Logf("%d is too many for %s", came, name)
				}
				came++ // numbers rise, so who came ahead is below
			case 1:
				if id, is := l.q.Take(name); is {
					if was, taken := last[name]; taken && was >= id {
						t.Fatalf("%d is taken behind %d", id, was)
					}
					last[name] = id
				}
			default:
				l.q.Drop(draw(came + 1))
			}
			for _, name := range names(4) {
				row := l.q.List(name)
				if was, taken := last[name]; !slices.IsSorted(row) || taken && len(row) > 0 && row[0] <= was {
					t.Fatalf("for %s %v wait, behind %d", name, row, was)
				}
			}
		}
	}
}

// P14.3: rows of a queue on which calls of many names fall are those of queues each of which has those of one name.

func TestApart(t *testing.T) {
	for seed := range uint32(100) {
		draw, all := drawer(seed), queue.New()
		many := 1 + draw(8) // 8 for each of 8: never too many in all
		alone := make([]*queue.Queue, many)
		for i := range alone {
			alone[i] = queue.New()
		}
		for range 300 {
			i := draw(many)
			name, id := names(many)[i], i+many*draw(12)
			switch draw(4) {
			case 0, 1:
				if e, want := all.Put(name, id), alone[i].Put(name, id); e != want {
					t.Fatalf("Put of %d for %s: %d, alone %d", id, name, e, want)
				}
			case 2:
				got, is := all.Take(name)
				if want, was := alone[i].Take(name); got != want || is != was {
					t.Fatalf("Take of %s: %d, %t, alone %d, %t", name, got, is, want, was)
				}
			default:
				if was, want := all.Drop(id), alone[i].Drop(id); was != want {
					t.Fatalf("Drop of %d: %t, alone %t", id, was, want)
				}
			}
			sum := 0
			for i, name := range names(many) {
				if got, want := all.List(name), alone[i].List(name); !slices.Equal(got, want) {
					t.Fatalf("for %s %v wait, alone %v", name, got, want)
				}
				sum += alone[i].Many()
			}
			if all.Many() != sum {
				t.Fatalf("%d wait, alone %d", all.Many(), sum)
			}
		}
	}
}

// P14.1 to P14.3, in mixed rows of calls.

func TestMixedScripts(t *testing.T) {
	for seed := range uint32(90) {
		draw, l := drawer(seed), newLine(t)
		of := append([]string{""}, names(1+draw(14))...)
		ids, puts := 20+draw(100), 1+draw(4)
		for range 300 {
			name, id := of[draw(len(of))], draw(ids)-1
			switch draw(3 + puts) {
			case 0:
				l.take(t, name)
			case 1:
				l.drop(t, id)
			case 2:
				if len(l.all) > 0 {
					l.drop(t, l.all[draw(len(l.all))].id)
				}
			default:
				l.put(t, name, id)
			}
		}
	}
}

// P3: what is handed in is not kept; what is handed back may be written into; one queue is none of another one.

// All that comes out is written into by the line; here it is kept, too, and looked at behind the calls to come.
func TestListsAreNew(t *testing.T) {
	l := full(t)
	var told, want [][]int
	tell := func(ids []int) {
		told, want = append(told, ids), append(want, slices.Clone(ids))
	}
	for id := range 40 {
		name := names(8)[id%8]
		tell(l.q.List(name))
		tell(l.q.List(name))
		l.q.Drop(id)
		tell(l.q.List(name))
		l.q.Put(name, 100+id)
		tell(l.q.List(name))
		l.q.Take(name)
		l.q.Put(name, 200+id)
		tell(l.q.List(name))
	}
	for i := range told {
		for k := range told { // behind all calls, and behind each list ahead of this one was written into
			if !slices.Equal(told[k], want[k]) {
				t.Fatalf("what was told became %v", told[k])
			}
		}
		spoil(told[i])
		want[i] = slices.Clone(told[i])
	}
}

// A text whose bytes change behind the call shows whether it is kept.
func TestTextsAreNotKept(t *testing.T) {
	text := func(b []byte) string { return unsafe.String(&b[0], len(b)) }
	l := newLine(t)
	for id := 1; id <= 3; id++ { // the first one makes the row, and the others come to it
		name := []byte("web")
		l.put(t, text(name), id)
		l.all[len(l.all)-1].name = "web"
		copy(name, "ftp")
		l.like(t)
		l.has(t, "ftp")
	}
	l.has(t, "web", 1, 2, 3)
	name := []byte("web")
	if id, is := l.q.Take(text(name)); id != 1 || !is {
		t.Error(id, is)
	}
	copy(name, "ftp")
	l.has(t, "web", 2, 3)
	where, is := l.q.Where(2)
	l.q.Drop(2)
	l.q.Drop(3)
	l.q.Put("ftp", 2)
	if where != "web" || !is {
		t.Errorf("it waited for %q, %t", where, is)
	}
}

func TestQueuesAreApart(t *testing.T) {
	one, other, idle := newLine(t), newLine(t), newLine(t)
	for id := range 60 {
		name := names(5)[id%5]
		one.put(t, name, id)
		other.put(t, name, 60-id)
		if id%4 == 3 {
			one.take(t, name)
			other.drop(t, 60-id)
		}
		one.like(t)
		other.like(t)
		idle.like(t)
	}
}
