package broker

import "subway/api"

// event is what events of a kind do: what came of one, but for what was sent.
type event func(t *turn, e api.Ev) api.Out

// events are those that there are, by their kinds.
func events() map[int]event {
	return map[int]event{
		api.EvConnect: (*turn).connect,
		api.EvBytes:   ofOne((*turn).bytes),
		api.EvBudget:  ofOne((*turn).budget),
		api.EvHalf:    ofOne((*turn).half),
		api.EvReset:   ofOne((*turn).reset),
		api.EvTick:    (*turn).tick,
		api.EvRevoke:  (*turn).revoke,
		api.EvEvict:   (*turn).evict,
	}
}

// ofOne is an event of a connection that there must be.
func ofOne(do event) event {
	return func(t *turn, e api.Ev) api.Out {
		if !t.conns.Has(e.Conn) {
			return failed(api.ErrNone)
		}
		return do(t, e)
	}
}

// failed is what comes of an event that has an error.
func failed(e api.Errno) api.Out {
	return api.Out{Err: e}
}

func (t *turn) connect(e api.Ev) api.Out {
	id, err := t.conns.Open(e.Addr)
	if err != api.OK {
		return failed(err)
	}
	t.roles[id] = newcomer(id, t.vault)
	t.wake(t.wait, id)
	return api.Out{Conn: id}
}

func (t *turn) bytes(e api.Ev) api.Out {
	took := t.conns.Feed(e.Conn, []byte(e.B))
	t.read(e.Conn)
	return api.Out{Took: took}
}

func (t *turn) budget(e api.Ev) api.Out {
	if !t.conns.Budget(e.Conn, int(e.N)) {
		return failed(api.ErrArg)
	}
	return api.Out{}
}

func (t *turn) half(e api.Ev) api.Out {
	if !t.conns.Half(e.Conn) {
		return failed(api.ErrArg)
	}
	t.read(e.Conn)
	return api.Out{}
}

func (t *turn) reset(e api.Ev) api.Out {
	t.close(e.Conn)
	return api.Out{}
}

func (t *turn) tick(e api.Ev) api.Out {
	late, err := t.clock.Tick(e.N)
	if err != api.OK {
		return failed(err)
	}
	for _, l := range t.leases.Lapse(t.Now()) {
		t.gone(l)
	}
	for _, id := range late {
		t.close(id)
	}
	return api.Out{}
}

func (t *turn) revoke(e api.Ev) api.Out {
	if !t.vault.Revoke(e.Name, e.Token) {
		return failed(api.ErrNone)
	}
	for _, id := range t.conns.All() {
		if r, is := t.roles[id]; is && r.showed(e.Name, e.Token) {
			t.close(id)
		}
	}
	return api.Out{}
}

func (t *turn) evict(e api.Ev) api.Out {
	was, is := t.leases.Evict(e.Name, t.Now())
	if !is {
		return failed(api.ErrNone)
	}
	t.gone(was)
	return api.Out{}
}
