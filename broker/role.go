package broker

import (
	"subway/api"
	"subway/pump"
	"subway/shake"
	"subway/vault"
)

// role is what a connection is: what is told of that, and what those of some kinds have beside it.
type role struct {
	api.Role
	shake *shake.Shake // of a new one
	hello api.Msg      // of a new one, and of an agent: what it said first; a zero one, if it said nothing yet
	pair  *pump.Pump   // of a paired one: its pair's
	side  int          // of a paired one: at which side of that it is
	due   bool         // of a paired one: an end is to be sent to it
	said  bool         // of a paired one: an end was sent to it
}

// The sides of a pair.
const (
	visitorSide = 0
	callerSide  = 1
)

// newcomer is the role of one of whom nothing is known yet.
func newcomer(id int, v *vault.Vault) *role {
	return &role{Role: api.Role{Conn: id, Kind: api.RoleNew}, shake: shake.New(v)}
}

// agent is the role of one that is known as a tenant, by its hello.
func agent(id int, tenant string, hello api.Msg) *role {
	return &role{Role: api.Role{Conn: id, Kind: api.RoleAgent, Tenant: tenant}, hello: hello}
}

// visitor is the role of one that waits for a name, as that is held.
func visitor(id int, l api.Lease) *role {
	return &role{Role: api.Role{Conn: id, Kind: api.RoleVisitor, Tenant: l.Tenant, Name: l.Name, Epoch: l.Epoch}}
}

// paired is the role of one of a pair, of what its ticket was for.
func paired(id int, p api.Pass, side int, both *pump.Pump) *role {
	return &role{Role: api.Role{Conn: id, Kind: api.RolePaired, Tenant: p.Tenant, Name: p.Name, Epoch: p.Epoch}, pair: both, side: side}
}

// fresh: is that one that was not heard yet?
func (r *role) fresh() bool {
	return r.Kind == api.RoleNew && r.hello == (api.Msg{})
}

// showed: is that an agent, known by that token of that tenant?
func (r *role) showed(tenant string, token string) bool {
	return r.Kind == api.RoleAgent && r.hello == api.Msg{Kind: api.Hello, A: tenant, B: token}
}
