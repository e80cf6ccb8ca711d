package clock

// alarm goes at a time. It knows its place in the row, so that it can be found there when it is set anew, or dropped.
type alarm struct {
	id    int
	at    int64
	place int
}

// row is alarms as a heap (container/heap): its first one goes first.
type row []*alarm

func (r row) Len() int {
	return len(r)
}

func (r row) Less(i, j int) bool {
	if r[i].at != r[j].at {
		return r[i].at < r[j].at
	}
	return r[i].id < r[j].id
}

func (r row) Swap(i, j int) {
	r[i], r[j] = r[j], r[i]
	r[i].place, r[j].place = i, j
}

func (r *row) Push(x any) {
	a := x.(*alarm)
	a.place = len(*r)
	*r = append(*r, a)
}

func (r *row) Pop() any {
	last := len(*r) - 1
	a := (*r)[last]
	(*r)[last] = nil // nothing is kept of one that is there no more
	*r = (*r)[:last]
	return a
}
