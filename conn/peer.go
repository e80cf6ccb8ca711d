package conn

import (
	"subway/api"
	"subway/frame"
	"subway/ring"
)

// peer is a connection.
type peer struct {
	addr   uint32
	came   *ring.Ring // and was not taken yet
	waits  *ring.Ring // to be sent
	credit int        // how many of those may be
	ended  bool       // no more will come
}

func newPeer(addr uint32) *peer {
	return &peer{addr: addr, came: ring.New(api.MaxIn), waits: ring.New(api.MaxOut)}
}

// framed is what came in a frame: that, whether it is one, and why it can be none.
type framed struct {
	has []byte
	is  bool
	err api.Errno
}

func (p *peer) feed(b []byte) int {
	if p.ended {
		return 0
	}
	return p.came.Add(b)
}

func (p *peer) next() framed {
	has, many, err := frame.First(p.came.Look())
	if err != api.OK || many == 0 {
		return framed{err: err}
	}
	p.came.Take(many)
	return framed{has: has, is: true}
}

func (p *peer) say(b []byte) bool {
	if len(b) > p.waits.Room() {
		return false // a part of a message would be none
	}
	p.waits.Add(b)
	return true
}

func (p *peer) budget(n int) bool {
	if n < 0 || n > api.MaxBudget {
		return false
	}
	p.credit += min(n, api.MaxBudget-p.credit)
	return true
}

func (p *peer) flush() []byte {
	b := p.waits.Take(p.credit)
	p.credit -= len(b)
	return b
}

func (p *peer) half() bool {
	if p.ended {
		return false
	}
	p.ended = true
	return true
}
