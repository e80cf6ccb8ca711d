package broker_test

import (
	"maps"
	"slices"
	"strconv"

	"subway/api"
	"subway/mac"
	"subway/wire"
)

// The bounds of the document.
const (
	maxConns  = 64
	maxIn     = 512
	maxOut    = 1024
	maxRelay  = 256
	maxBudget = 1 << 30
	maxLeases = 64
	maxTime   = 1 << 30
	maxNum    = 1 << 40
)

// model is what the document says of a broker, told anew, with none of the layers that it stands on but for messages and proofs.
type model struct {
	c       api.Config
	now     int64
	many    int // how many connections there were
	are     map[int]*party
	leases  map[string]api.Lease
	epoch   int64 // of the next claim
	used    map[string]*[3]int
	row     []int // who waits, for whatever name, in the order in which they came
	tickets []issued
	serial  int
	revoked map[[2]string]bool
	draw    string
	sent    map[int]*api.Sent
	seen    map[string]int // what has happened, and how often: so that a script shows what it reached
}

// party is a connection, and what it is.
type party struct {
	api.Role
	addr   uint32
	came   string
	waits  string
	credit int
	ended  bool
	alarm  int64
	hello  api.Msg // of a new one, and an agent
	nonce  string  // of a new one
	other  int     // of a paired one: the other one
	caller bool    // of a paired one: it called back
	inside string  // of a paired one: what came in of it and did not go out to the other one
	said   bool    // of a paired one: an end was sent to it
}

type issued struct {
	text string
	pass api.Pass
}

func newModel(c api.Config) *model {
	m := &model{c: c, are: map[int]*party{}, leases: map[string]api.Lease{}, epoch: 1, used: map[string]*[3]int{}, revoked: map[[2]string]bool{}, seen: map[string]int{}}
	for _, t := range c.Tenants {
		m.used[t.Name] = &[3]int{}
	}
	return m
}

func (m *model) tenant(name string) api.Tenant {
	i := slices.IndexFunc(m.c.Tenants, func(t api.Tenant) bool { return t.Name == name })
	if i < 0 {
		return api.Tenant{}
	}
	return m.c.Tenants[i]
}

func (m *model) token(tenant string, name string) (api.Token, bool) {
	all := m.tenant(tenant).Tokens
	i := slices.IndexFunc(all, func(k api.Token) bool { return k.Name == name })
	if i < 0 {
		return api.Token{}, false
	}
	return all[i], true
}

// ids are all connections, by rising numbers.
func (m *model) ids() []int {
	return slices.Sorted(maps.Keys(m.are))
}

// names are those of all leases, in order.
func (m *model) names() []string {
	return slices.Sorted(maps.Keys(m.leases))
}

func (m *model) roles() []api.Role {
	var all []api.Role
	for _, id := range m.ids() {
		all = append(all, m.are[id].Role)
	}
	return all
}

func (m *model) pairs() []api.Pair {
	var all []api.Pair
	for _, id := range m.ids() {
		if p := m.are[id]; p.Kind == api.RolePaired && !p.caller {
			all = append(all, api.Pair{Visitor: id, Caller: p.other})
		}
	}
	return all
}

func (m *model) all() []api.Lease {
	var all []api.Lease
	for _, name := range m.names() {
		all = append(all, m.leases[name])
	}
	return all
}

func (m *model) uses(tenant string, what int) int {
	if u := m.used[tenant]; u != nil && (what == api.Names || what == api.Visitors) {
		return u[what]
	}
	return 0
}

func (m *model) waiting(name string) []int {
	var all []int
	for _, id := range m.row {
		if m.are[id].Name == name {
			all = append(all, id)
		}
	}
	return all
}

// step is what comes of an event.
func (m *model) step(e api.Ev) api.Out {
	m.draw, m.sent = e.Draw, map[int]*api.Sent{}
	out := m.event(e)
	if out.Err != api.OK {
		return out
	}
	m.goOn()
	for _, id := range slices.Sorted(maps.Keys(m.sent)) {
		out.Sent = append(out.Sent, *m.sent[id])
	}
	return out
}

func (m *model) event(e api.Ev) api.Out {
	p := m.are[e.Conn]
	if p == nil && e.Kind >= api.EvBytes && e.Kind <= api.EvReset {
		return api.Out{Err: api.ErrNone}
	}
	switch e.Kind {
	case api.EvConnect:
		return m.connect(e.Addr)
	case api.EvBytes:
		took := 0
		if !p.ended {
			took = min(len(e.B), maxIn-len(p.came))
		}
		p.came += e.B[:took]
		m.read(p)
		return api.Out{Took: took}
	case api.EvBudget:
		if e.N < 0 || e.N > maxBudget {
			return api.Out{Err: api.ErrArg}
		}
		p.credit = min(p.credit+int(e.N), maxBudget)
	case api.EvHalf:
		if p.ended {
			return api.Out{Err: api.ErrArg}
		}
		p.ended = true
		m.read(p)
	case api.EvReset:
		m.close(e.Conn)
	case api.EvTick:
		return m.tick(e.N)
	case api.EvRevoke:
		return m.revoke(e.Name, e.Token)
	case api.EvEvict:
		l := m.leases[e.Name]
		if !l.Held {
			return api.Out{Err: api.ErrNone}
		}
		delete(m.leases, e.Name)
		m.gone(l)
	default:
		return api.Out{Err: api.ErrArg}
	}
	return api.Out{}
}

func (m *model) connect(addr uint32) api.Out {
	if len(m.are) == maxConns {
		return api.Out{Err: api.ErrTooMany}
	}
	m.many++
	m.are[m.many] = &party{Role: api.Role{Conn: m.many, Kind: api.RoleNew}, addr: addr, alarm: m.now + m.c.Wait}
	return api.Out{Conn: m.many}
}

func (m *model) tick(n int64) api.Out {
	if n < 0 || n > maxNum-m.now {
		return api.Out{Err: api.ErrArg}
	}
	m.now += n
	var late []int
	for _, id := range m.ids() {
		if m.are[id].alarm <= m.now {
			late = append(late, id)
		}
	}
	slices.SortStableFunc(late, func(a, b int) int { return int(m.are[a].alarm - m.are[b].alarm) })
	for _, name := range m.names() {
		if l := m.leases[name]; l.Held && l.Until <= m.now {
			m.keep(l, l.Until)
			m.gone(l)
			m.seen["lapsed"]++
		}
	}
	for _, name := range m.names() {
		if l := m.leases[name]; !l.Held && l.Until <= m.now {
			delete(m.leases, name)
		}
	}
	for _, id := range late {
		if p := m.are[id]; p != nil {
			m.seen["late "+strconv.Itoa(p.Kind)]++
		}
		m.close(id)
	}
	return api.Out{}
}

func (m *model) revoke(tenant string, token string) api.Out {
	k := [2]string{tenant, token}
	if _, is := m.token(tenant, token); !is || m.revoked[k] {
		return api.Out{Err: api.ErrNone}
	}
	m.revoked[k] = true
	for _, id := range m.ids() {
		if p := m.are[id]; p != nil && p.Kind == api.RoleAgent && p.Tenant == tenant && p.hello.B == token {
			m.close(id)
			m.seen["revoked"]++
		}
	}
	return api.Out{}
}

// keep has a lease be held no more, and kept for the grace from a time on.
func (m *model) keep(l api.Lease, from int64) {
	l.Held, l.Until = false, from+m.c.Grace
	m.leases[l.Name] = l
}

func (m *model) to(id int) *api.Sent {
	if m.sent[id] == nil {
		m.sent[id] = &api.Sent{Conn: id}
	}
	return m.sent[id]
}

// flush sends the first of what waits, as many as the credit lets go.
func (m *model) flush(p *party) {
	n := min(p.credit, len(p.waits))
	if n > 0 {
		m.to(p.Conn).B += p.waits[:n]
	}
	p.waits, p.credit = p.waits[n:], p.credit-n
}

// tell: what is no message, and what there is no room for, is not told.
func (m *model) tell(id int, msg api.Msg) {
	p, b := m.are[id], wire.Put(msg)
	if p == nil || len(b) == 0 {
		m.seen["not told: none"]++
		return
	}
	if len(p.waits)+2+len(b) > maxOut {
		m.seen["not told: full"]++
		return
	}
	p.waits += "\xaa" + string([]byte{byte(len(b))}) + string(b)
}

func (m *model) why(id int, e api.Errno) {
	m.tell(id, api.Msg{Kind: api.Refuse, N: int64(e)})
	m.seen["refuse "+strconv.Itoa(int(e))]++
}

func (m *model) refuse(id int, e api.Errno) {
	m.why(id, e)
	m.close(id)
}

func (m *model) close(id int) {
	p := m.are[id]
	if p == nil {
		return
	}
	m.flush(p)
	m.to(id).Closed = true
	delete(m.are, id)
	switch p.Kind {
	case api.RoleAgent:
		for _, name := range m.names() {
			if l := m.leases[name]; l.Held && l.Conn == id {
				m.keep(l, m.now)
				m.used[p.Tenant][api.Names]--
				m.empty(name)
				m.seen["left"]++
			}
		}
	case api.RoleVisitor:
		m.row = slices.DeleteFunc(m.row, func(v int) bool { return v == id })
		m.tickets = slices.DeleteFunc(m.tickets, func(k issued) bool { return k.pass.Visitor == id })
		m.used[p.Tenant][api.Visitors]--
	case api.RolePaired:
		if m.are[p.other] != nil {
			m.used[p.Tenant][api.Visitors]--
			m.close(p.other)
		}
	}
}

func (m *model) empty(name string) {
	for _, id := range slices.Clone(m.row) {
		if p := m.are[id]; p.Name == name {
			m.refuse(id, api.ErrNone)
			m.seen["emptied"]++
		}
	}
}

func (m *model) gone(l api.Lease) {
	m.used[l.Tenant][api.Names]--
	m.tell(l.Conn, api.Msg{Kind: api.Gone, A: l.Name, N: l.Epoch})
	m.empty(l.Name)
}

// goOn has all go on at once: of what goes to one of a pair, some is sent, some waits for it, some waits between both, and the rest has come yet.
func (m *model) goOn() {
	for _, id := range m.ids() {
		if p := m.are[id]; p.Kind == api.RolePaired {
			m.through(m.are[p.other], p)
		} else {
			m.flush(p)
		}
	}
	for _, p := range m.pairs() {
		if m.are[p.Visitor].said && m.are[p.Caller].said {
			m.close(p.Visitor)
			m.seen["finished"]++
		}
	}
}

func (m *model) through(from *party, to *party) {
	was := [3]int{len(to.waits), len(from.inside), len(from.came)}
	all := to.waits + from.inside + from.came
	sent := min(to.credit, len(all))
	waits := min(maxOut, len(all)-sent)
	inside := min(maxRelay, len(all)-sent-waits)
	if sent > 0 {
		m.to(to.Conn).B += all[:sent]
	}
	to.credit -= sent
	all = all[sent:]
	to.waits, from.inside, from.came = all[:waits], all[waits:waits+inside], all[waits+inside:]
	if len(from.came) < was[2] || sent+waits > was[0] { // some came in, or went out
		from.alarm, to.alarm = m.now+m.c.Idle, m.now+m.c.Idle
		m.seen["moved"]++
	}
	if len(all) > 0 {
		m.seen["held up"]++
	}
	if len(from.came) > 0 {
		m.seen["held up to the last"]++
	}
	if from.ended && len(all) == 0 && !to.said {
		to.said, m.to(to.Conn).End = true, true
		m.seen["end"]++
	}
}

// read has what came of a connection be heard.
func (m *model) read(p *party) {
	speaks := func() bool { return m.are[p.Conn] == p && p.Kind <= api.RoleAgent }
	for speaks() && p.came != "" {
		many, next := 0, p.came
		if len(next) > 1 {
			many = int(next[1])
		}
		if next[0] != 170 || len(next) > 1 && (many == 0 || many > 200) {
			m.refuse(p.Conn, api.ErrFrame)
			return
		}
		if len(next) < 2+many || many == 0 {
			break
		}
		p.came = next[2+many:]
		msg, is := wire.Get([]byte(next[2 : 2+many]))
		if !is {
			m.refuse(p.Conn, api.ErrFrame)
			return
		}
		p.alarm = m.now + m.c.Idle
		m.hear(p, msg)
	}
	if speaks() && p.ended {
		m.close(p.Conn)
		m.seen["ended"]++
	}
}

func (m *model) hear(p *party, msg api.Msg) {
	switch {
	case p.Kind == api.RoleAgent:
		m.hearAgent(p, msg)
	case p.hello == api.Msg{} && msg.Kind == api.Reach:
		m.reach(p, msg.A)
	case p.hello == api.Msg{} && msg.Kind == api.Hello:
		p.hello, p.nonce = msg, ""
		for _, c := range []byte(m.draw[:min(16, len(m.draw))]) {
			p.nonce += string("0123456789abcdef"[c>>4]) + string("0123456789abcdef"[c&15])
		}
		m.tell(p.Conn, api.Msg{Kind: api.Nonce, A: p.nonce})
	case p.hello != api.Msg{} && msg.Kind == api.Proof:
		k, is := m.token(p.hello.A, p.hello.B)
		switch {
		case !is, m.revoked[[2]string{p.hello.A, p.hello.B}], m.now >= k.Until:
			m.refuse(p.Conn, api.ErrNone)
		case msg.A != mac.Proof([]byte(k.Secret), p.hello.A, p.hello.B, p.nonce):
			m.refuse(p.Conn, api.ErrProof)
		default:
			m.tell(p.Conn, api.Msg{Kind: api.Welcome})
			p.Kind, p.Tenant = api.RoleAgent, p.hello.A
			m.seen["agent"]++
		}
	default:
		m.refuse(p.Conn, api.ErrArg)
	}
}

// within: is an address in one of these nets, or are there none?
func within(nets []api.Net, addr uint32) bool {
	return len(nets) == 0 || slices.ContainsFunc(nets, func(n api.Net) bool { return uint64(addr)>>(32-n.Bits) == uint64(n.Addr)>>(32-n.Bits) })
}

func (m *model) reach(p *party, name string) {
	l := m.leases[name]
	if !l.Held {
		m.refuse(p.Conn, api.ErrNone)
		return
	}
	t := m.tenant(l.Tenant)
	if !within(t.Nets, p.addr) {
		m.refuse(p.Conn, api.ErrNet)
		return
	}
	if m.used[t.Name][api.Visitors] >= t.Visitors {
		m.refuse(p.Conn, api.ErrQuota)
		return
	}
	m.used[t.Name][api.Visitors]++
	p.Role = api.Role{Conn: p.Conn, Kind: api.RoleVisitor, Tenant: l.Tenant, Name: name, Epoch: l.Epoch}
	p.alarm = m.now + m.c.Wait
	m.row = append(m.row, p.Conn)
	m.serial++
	text := mac.Proof([]byte("subway"), strconv.Itoa(m.serial), m.draw[:min(255, len(m.draw))])[:32]
	m.tickets = append(m.tickets, issued{text, api.Pass{Visitor: p.Conn, Name: name, Tenant: l.Tenant, Epoch: l.Epoch}})
	m.tell(l.Conn, api.Msg{Kind: api.Call, A: name, B: text})
	m.seen["visitor"]++
}

func (m *model) hearAgent(p *party, msg api.Msg) {
	switch msg.Kind {
	case api.Claim:
		m.claim(p, msg)
	case api.Renew:
		l, e := m.own(p, msg)
		if msg.M < 1 || msg.M > maxTime {
			e = api.ErrArg
		}
		if e != api.OK {
			m.why(p.Conn, e)
			return
		}
		l.Until = m.now + min(msg.M, m.c.Lease)
		m.granted(p, l)
	case api.Release:
		l, e := m.own(p, msg)
		if e != api.OK {
			m.why(p.Conn, e)
			return
		}
		m.keep(l, m.now)
		m.gone(l)
		m.seen["released"]++
	case api.Beat:
	case api.Ticket:
		m.ticket(p, msg.B)
	default:
		m.refuse(p.Conn, api.ErrArg)
	}
}

// own is the lease of a message's name, if its epoch and who said it are those of it.
func (m *model) own(p *party, msg api.Msg) (api.Lease, api.Errno) {
	l := m.leases[msg.A]
	switch {
	case !l.Held:
		return l, api.ErrNone
	case l.Tenant != p.Tenant:
		return l, api.ErrHeld
	case l.Epoch != msg.N:
		return l, api.ErrOld
	}
	return l, api.OK
}

func (m *model) granted(p *party, l api.Lease) {
	m.leases[l.Name] = l
	m.tell(p.Conn, api.Msg{Kind: api.Granted, A: l.Name, N: l.Epoch, M: l.Until})
	m.seen["granted"]++
}

func (m *model) claim(p *party, msg api.Msg) {
	l, is := m.leases[msg.A]
	e := api.OK
	switch {
	case m.used[p.Tenant][api.Names] >= m.tenant(p.Tenant).Names:
		e = api.ErrQuota
	case !isName(msg.A), msg.N < 1, msg.N > maxTime:
		e = api.ErrArg
	case is && l.Tenant != p.Tenant:
		e = api.ErrHeld
	case is && l.Held:
		e = api.ErrThere
	case !is && len(m.leases) == maxLeases:
		e = api.ErrTooMany
	}
	if e != api.OK {
		m.why(p.Conn, e)
		return
	}
	m.used[p.Tenant][api.Names]++
	m.granted(p, api.Lease{Name: msg.A, Tenant: p.Tenant, Conn: p.Conn, Epoch: m.epoch, Until: m.now + min(msg.N, m.c.Lease), Held: true})
	m.epoch++
}

func isName(s string) bool {
	for i, c := range []byte(s) {
		if !(c >= 'a' && c <= 'z' || c >= '0' && c <= '9' || c == '-' && i > 0 && i < len(s)-1) {
			return false
		}
	}
	return len(s) >= 1 && len(s) <= 20
}

func (m *model) ticket(p *party, text string) {
	for _, l := range m.leases {
		if l.Held && l.Conn == p.Conn {
			m.refuse(p.Conn, api.ErrArg)
			return
		}
	}
	i := slices.IndexFunc(m.tickets, func(k issued) bool { return k.text == text })
	if i < 0 {
		m.refuse(p.Conn, api.ErrSpent)
		return
	}
	pass := m.tickets[i].pass
	if pass.Tenant != p.Tenant {
		m.refuse(p.Conn, api.ErrHeld)
		return
	}
	m.tickets = slices.Delete(m.tickets, i, i+1)
	m.row = slices.DeleteFunc(m.row, func(id int) bool { return id == pass.Visitor })
	v := m.are[pass.Visitor]
	for _, one := range []*party{v, p} {
		one.Role = api.Role{Conn: one.Conn, Kind: api.RolePaired, Tenant: pass.Tenant, Name: pass.Name, Epoch: pass.Epoch}
		one.alarm = m.now + m.c.Idle
	}
	v.other, p.other, p.caller = p.Conn, v.Conn, true
	m.seen["paired"]++
}
