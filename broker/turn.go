package broker

import (
	"maps"
	"slices"

	"subway/api"
	"subway/frame"
	"subway/wire"
)

// turn is a broker in an event: what is drawn with that, and what was sent so far.
type turn struct {
	*Broker
	draw string
	sent map[int]*api.Sent // by connections
}

// to is what is sent to a connection: something is, if that is asked.
func (t *turn) to(id int) *api.Sent {
	s, is := t.sent[id]
	if !is {
		s = &api.Sent{Conn: id}
		t.sent[id] = s
	}
	return s
}

// all is all that was sent.
func (t *turn) all() []api.Sent {
	var all []api.Sent
	for _, id := range slices.Sorted(maps.Keys(t.sent)) {
		all = append(all, *t.sent[id])
	}
	return all
}

// wake has the alarms of connections go behind so long a time.
func (t *turn) wake(behind int64, ids ...int) {
	for _, id := range ids {
		t.clock.Set(id, t.Now()+behind)
	}
}

// tell says a message to a connection, if there is room for all of it.
func (t *turn) tell(id int, m api.Msg) {
	t.conns.Say(id, frame.Put(wire.Put(m)))
}

// tellWhy says to a connection why something was not done, refuse closes it then, too.
func (t *turn) tellWhy(id int, why api.Errno) {
	t.tell(id, api.Msg{Kind: api.Refuse, N: int64(why)})
}

func (t *turn) refuse(id int, why api.Errno) {
	t.tellWhy(id, why)
	t.close(id)
}

// close has a connection be there no more, and who hangs on it.
func (t *turn) close(id int) {
	r, is := t.roles[id]
	if !is {
		return
	}
	last := t.to(id)
	last.B += string(t.conns.Flush(id))
	last.Closed = true
	t.clock.Drop(id)
	t.conns.Close(id)
	delete(t.roles, id) // ahead of what it leaves: of a pair, each closes the other one
	t.leave(r)
}

// leave gives back what one had that is there no more.
func (t *turn) leave(r *role) {
	switch r.Kind {
	case api.RoleAgent:
		for _, l := range t.leases.Leave(r.Conn, t.Now()) {
			t.gate.Give(r.Tenant, api.Names)
			t.empty(l.Name)
		}
	case api.RoleVisitor:
		t.queue.Drop(r.Conn)
		t.tickets.Void(r.Conn)
		t.gate.Give(r.Tenant, api.Visitors)
	case api.RolePaired:
		if other, is := t.pairs.Part(r.Conn); is { // so a pair's visitor is given back once
			t.gate.Give(r.Tenant, api.Visitors)
			t.close(other)
		}
	}
}

// empty refuses all that wait for a name.
func (t *turn) empty(name string) {
	for _, id := range t.queue.List(name) {
		t.refuse(id, api.ErrNone)
	}
}

// gone is what comes of a lease that is none any more.
func (t *turn) gone(was api.Lease) {
	t.gate.Give(was.Tenant, api.Names)
	t.tell(was.Conn, api.Msg{Kind: api.Gone, A: was.Name, N: was.Epoch})
	t.empty(was.Name)
}

// taking has a tenant have one more of something, for what is done with it: with an error of that it has not.
func (t *turn) taking(tenant string, what int, do func() api.Errno) api.Errno {
	if e := t.gate.Take(tenant, what); e != api.OK {
		return e
	}
	e := do()
	if e != api.OK {
		t.gate.Give(tenant, what)
	}
	return e
}
