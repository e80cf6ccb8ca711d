package broker

import "subway/api"

// goOn has all go on that can, until nothing does.
func (t *turn) goOn() {
	for t.round() {
	}
}

// round goes once through all pairs and connections: did anything go on?
func (t *turn) round() bool {
	relayed := count(t.pairs.All(), func(p api.Pair) bool {
		there := t.relay(p.Visitor, p.Caller)
		back := t.relay(p.Caller, p.Visitor)
		return there || back
	})
	flushed := count(t.conns.All(), t.flush)
	closed := count(t.pairs.All(), t.finish)
	return relayed+flushed+closed > 0
}

// count is of how many something is so. All of them are asked.
func count[T any](all []T, so func(T) bool) int {
	many := 0
	for _, one := range all {
		if so(one) {
			many++
		}
	}
	return many
}

// relay has what came of one of a pair go to the other one, as far as there is room: did anything?
func (t *turn) relay(from int, to int) bool {
	of, other := t.roles[from], t.roles[to]
	in := of.pair.In(of.side, t.conns.Rest(from, of.pair.Room(of.side)))
	ended := t.conns.Ended(from) && t.conns.Came(from) == 0 && of.pair.End(of.side)
	out, end := of.pair.Out(other.side, t.conns.Room(to))
	t.conns.Say(to, out)
	other.due = other.due || end
	moved := in > 0 || len(out) > 0
	if moved {
		t.wake(t.idle, from, to)
	}
	return moved || ended
}

// flush sends what waits for a connection, as far as its credit lets it, and behind all of it the end that is due: was anything sent?
func (t *turn) flush(id int) bool {
	b, r := t.conns.Flush(id), t.roles[id]
	end := r.due && t.conns.Waits(id) == 0
	if len(b) == 0 && !end {
		return false
	}
	s := t.to(id)
	s.B += string(b)
	if end {
		r.due, r.said, s.End = false, true, true
	}
	return true
}

// finish closes a pair, if both were told that nothing more comes: is it closed?
func (t *turn) finish(p api.Pair) bool {
	over := t.roles[p.Visitor].said && t.roles[p.Caller].said
	if over {
		t.close(p.Visitor)
	}
	return over
}
