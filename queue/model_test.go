package queue_test

import (
	"math"
	"slices"
	"strings"
	"testing"

	"subway/api"
	"subway/queue"
)

// How many may wait for one name, and in all.
const (
	mostOfOne = 8
	mostOfAll = 64
)

// one is who waits, and for which name.
type one struct {
	name string
	id   int
}

// line is a queue, and what the chapter says of it: all who wait, in the order in which they came, whatever they wait for.
type line struct {
	q   *queue.Queue
	all []one
}

func newLine(t *testing.T) *line {
	t.Helper()
	q := queue.New()
	if q == nil {
		t.Fatal("there is no queue")
	}
	return &line{q: q}
}

// row is who waits for a name.
func (l *line) row(name string) []int {
	var out []int
	for _, o := range l.all {
		if o.name == name {
			out = append(out, o.id)
		}
	}
	return out
}

// place is where in all that one stands, -1 if it does not wait.
func (l *line) place(id int) int {
	return slices.IndexFunc(l.all, func(o one) bool { return o.id == id })
}

// spoil writes into a list that came out, and its spare room (P3): the queue is the same behind it.
func spoil(ids []int) {
	ids = ids[:cap(ids)]
	for i := range ids {
		ids[i] = -77
	}
}

// like holds all that the queue tells against the line: rows, also of some names for which nobody waits, how many wait, where each does; twice: to ask changes nothing.
func (l *line) like(t *testing.T) {
	t.Helper()
	for range 2 {
		if l.q.Many() != len(l.all) {
			t.Fatalf("%d wait, not %d", l.q.Many(), len(l.all))
		}
		for _, o := range l.all {
			if name, is := l.q.Where(o.id); name != o.name || !is {
				t.Fatalf("%d waits for %q, %t, not %q", o.id, name, is, o.name)
			}
			l.likeRow(t, o.name)
		}
		for _, name := range strangeNames() {
			l.likeRow(t, name)
		}
		for _, id := range strangeIds() {
			if l.place(id) < 0 {
				l.absent(t, id)
			}
		}
	}
}

func (l *line) likeRow(t *testing.T, name string) {
	t.Helper()
	got, want := l.q.List(name), l.row(name)
	if !slices.Equal(got, want) {
		t.Fatalf("for %q %v wait, not %v", name, got, want)
	}
	spoil(got)
}

func (l *line) absent(t *testing.T, id int) {
	t.Helper()
	if name, is := l.q.Where(id); name != "" || is {
		t.Fatalf("%d waits for %q, %t, and does not wait", id, name, is)
	}
}

func (l *line) put(t *testing.T, name string, id int) api.Errno {
	t.Helper()
	want := api.OK
	switch {
	case l.place(id) >= 0:
		want = api.ErrThere
	case len(l.row(name)) == mostOfOne, len(l.all) == mostOfAll:
		want = api.ErrTooMany
	default:
		l.all = append(l.all, one{name, id})
	}
	if e := l.q.Put(name, id); e != want {
		t.Fatalf("Put of %d for %q: %d, not %d", id, name, e, want)
	}
	l.like(t)
	return want
}

func (l *line) take(t *testing.T, name string) (int, bool) {
	t.Helper()
	want, found := 0, false
	if row := l.row(name); len(row) > 0 {
		want, found = row[0], true
		i := l.place(want)
		l.all = slices.Delete(l.all, i, i+1)
	}
	if id, is := l.q.Take(name); id != want || is != found {
		t.Fatalf("Take of %q: %d, %t, not %d, %t", name, id, is, want, found)
	}
	if found {
		l.absent(t, want)
	}
	l.like(t)
	return want, found
}

func (l *line) drop(t *testing.T, id int) bool {
	t.Helper()
	i := l.place(id)
	if i >= 0 {
		l.all = slices.Delete(l.all, i, i+1)
	}
	if was := l.q.Drop(id); was != (i >= 0) {
		t.Fatalf("Drop of %d: %t", id, was)
	}
	l.absent(t, id)
	l.like(t)
	return i >= 0
}

// has holds a name's row against one that is written out.
func (l *line) has(t *testing.T, name string, want ...int) {
	t.Helper()
	for range 2 {
		if got := l.q.List(name); !slices.Equal(got, want) {
			t.Fatalf("for %q %v wait, not %v", name, got, want)
		}
	}
}

// strangeNames are names too: nobody asks whether a name is one.
func strangeNames() []string {
	return []string{"", " ", "A", "-", "a\x00", "\x00", "é", "\xff", strings.Repeat("a", 21), strings.Repeat("a", 22), strings.Repeat("n", 5000)}
}

func strangeIds() []int {
	return []int{0, -1, -2, math.MinInt, math.MinInt + 1, math.MaxInt, math.MaxInt - 1, math.MaxInt32, math.MaxInt32 + 1, 1 << 32, 1<<32 + 1, 1 << 40}
}

// names are so many, none of which is there twice; they do not rise.
func names(many int) []string {
	var out []string
	for i := range many {
		out = append(out, string([]byte{'w' - byte(i%7), '0' + byte(i/7%10)}))
	}
	return out
}

// drawer draws numbers below one.
func drawer(seed uint32) func(int) int {
	return func(below int) int {
		seed = seed*1664525 + 1013904223
		return int(seed>>8) % below
	}
}
