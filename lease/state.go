package lease

import "subway/api"

// state is what a lease is at a time.
type state int

const (
	free state = iota // and as none
	kept
	held
)

// at is what a lease is at a time. One whose end nobody told yet is kept for the grace from there on, as if it had lapsed.
func (b *Book) at(l *api.Lease, now int64) state {
	end := l.Until
	if l.Held {
		if now < end {
			return held
		}
		end += b.grace
	}
	if now < end {
		return kept
	}
	return free
}

// find is the lease of a name, and what it is at a time; nil and free, if there is none.
func (b *Book) find(name string, now int64) (*api.Lease, state) {
	l, is := b.leases[name]
	if !is {
		return nil, free
	}
	return l, b.at(l, now)
}
