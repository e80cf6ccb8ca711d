package broker

import (
	"slices"

	"subway/api"
	"subway/digest"
	"subway/pump"
	"subway/wire"
)

// drawn is how many of the bytes that are drawn are in a nonce.
const drawn = 16

// heard is what messages of a kind do, of an agent.
type heard func(t *turn, r *role, m api.Msg)

// ofAgents are those that are heard of agents, by their kinds.
func ofAgents() map[int]heard {
	return map[int]heard{
		api.Claim:   (*turn).claim,
		api.Renew:   (*turn).renew,
		api.Release: (*turn).release,
		api.Beat:    (*turn).beat,
		api.Ticket:  (*turn).ticket,
	}
}

// read hears all messages that came of a connection, as long as it is one that says some.
func (t *turn) read(id int) {
	for t.speaks(id) && t.readOne(id) {
	}
	if t.speaks(id) && t.conns.Ended(id) { // of it nothing more will be heard
		t.close(id)
	}
}

// speaks: are a connection's bytes messages? A visitor's, and a pair's, are for the other one.
func (t *turn) speaks(id int) bool {
	r, is := t.roles[id]
	return is && (r.Kind == api.RoleNew || r.Kind == api.RoleAgent)
}

// readOne hears the next message that came of a connection: was there something to be read?
func (t *turn) readOne(id int) bool {
	b, is, err := t.conns.Next(id)
	if err != api.OK {
		t.refuse(id, err)
		return false
	}
	if !is {
		return false
	}
	m, right := wire.Get(b)
	if !right {
		t.refuse(id, api.ErrFrame)
		return false
	}
	t.hear(t.roles[id], m)
	return true
}

func (t *turn) hear(r *role, m api.Msg) {
	t.wake(t.idle, r.Conn)
	switch {
	case r.Kind == api.RoleAgent:
		t.hearAgent(r, m)
	case r.fresh() && m.Kind == api.Reach:
		t.reach(r.Conn, m.A)
	default:
		t.greet(r, m)
	}
}

func (t *turn) hearAgent(r *role, m api.Msg) {
	do, is := ofAgents()[m.Kind]
	if !is {
		t.refuse(r.Conn, api.ErrArg)
		return
	}
	do(t, r, m)
}

// reach has a new one wait for a name, and who holds that be called.
func (t *turn) reach(id int, name string) {
	l, is := t.leases.Holder(name, t.Now())
	if !is {
		t.refuse(id, api.ErrNone)
		return
	}
	if e := t.admit(id, l); e != api.OK {
		t.refuse(id, e)
		return
	}
	t.roles[id] = visitor(id, l)
	t.wake(t.wait, id)
	ticket, _ := t.tickets.Issue(api.Pass{Visitor: id, Name: l.Name, Tenant: l.Tenant, Epoch: l.Epoch}, t.draw)
	t.tell(l.Conn, api.Msg{Kind: api.Call, A: l.Name, B: ticket})
}

// admit has one wait for a name that is held, if it may.
func (t *turn) admit(id int, l api.Lease) api.Errno {
	if e := t.gate.Admit(l.Tenant, t.conns.Addr(id)); e != api.OK {
		return e
	}
	return t.taking(l.Tenant, api.Visitors, func() api.Errno {
		return t.queue.Put(l.Name, id)
	})
}

// greet goes on with the handshake of a new one, which may become an agent by it.
func (t *turn) greet(r *role, m api.Msg) {
	nonce := digest.Hex([]byte(t.draw[:min(len(t.draw), drawn)]))
	said, _ := r.shake.Hear(m, t.Now(), nonce)
	t.tell(r.Conn, said)
	if said.Kind == api.Refuse {
		t.close(r.Conn)
		return
	}
	if r.fresh() {
		r.hello = m
	}
	if tenant, is := r.shake.Who(); is {
		t.roles[r.Conn] = agent(r.Conn, tenant, r.hello)
	}
}

func (t *turn) claim(r *role, m api.Msg) {
	var l api.Lease
	e := t.taking(r.Tenant, api.Names, func() (e api.Errno) {
		l, e = t.leases.Claim(r.Tenant, m.A, r.Conn, t.Now(), m.N)
		return e
	})
	t.answer(r.Conn, l, e)
}

func (t *turn) renew(r *role, m api.Msg) {
	l, e := t.leases.Renew(r.Tenant, m.A, m.N, t.Now(), m.M)
	t.answer(r.Conn, l, e)
}

// answer tells an agent how it holds a name, or why it does not.
func (t *turn) answer(id int, l api.Lease, e api.Errno) {
	if e != api.OK {
		t.tellWhy(id, e)
		return
	}
	t.tell(id, api.Msg{Kind: api.Granted, A: l.Name, N: l.Epoch, M: l.Until})
}

func (t *turn) release(r *role, m api.Msg) {
	was, _ := t.leases.Holder(m.A, t.Now()) // another one of the tenant's may hold it, and is to be told
	if e := t.leases.Release(r.Tenant, m.A, m.N, t.Now()); e != api.OK {
		t.tellWhy(r.Conn, e)
		return
	}
	t.gone(was)
}

// beat does nothing: that it was heard is all that is asked.
func (t *turn) beat(*role, api.Msg) {}

// ticket pairs an agent with the visitor whose ticket it shows.
func (t *turn) ticket(r *role, m api.Msg) {
	if t.holds(r.Conn) {
		t.refuse(r.Conn, api.ErrArg)
		return
	}
	p, e := t.tickets.Redeem(m.B, r.Tenant)
	if e != api.OK {
		t.refuse(r.Conn, e)
		return
	}
	t.queue.Drop(p.Visitor)
	t.pairs.Join(p.Visitor, r.Conn)
	both := pump.New(api.MaxRelay)
	t.roles[p.Visitor] = paired(p.Visitor, p, visitorSide, both)
	t.roles[r.Conn] = paired(r.Conn, p, callerSide, both)
	t.wake(t.idle, p.Visitor, r.Conn)
}

// holds: does a connection hold a name?
func (t *turn) holds(id int) bool {
	return slices.ContainsFunc(t.leases.All(), func(l api.Lease) bool {
		return l.Held && l.Conn == id && t.Now() < l.Until
	})
}
