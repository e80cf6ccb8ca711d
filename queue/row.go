package queue

import (
	"slices"
	"strings"
)

// row is who waits for a name, in the order in which they came.
type row struct {
	name string
	ids  []int
}

// newRow is one of a text of its own: none that was handed in is kept.
func newRow(name string) *row {
	return &row{name: strings.Clone(name)}
}

// drop has one who waits in it wait there no more.
func (r *row) drop(id int) {
	i := slices.Index(r.ids, id)
	r.ids = slices.Delete(r.ids, i, i+1)
}

// list is all of them, in a list of its own: what is done to that, the row doesn't feel.
func (r *row) list() []int {
	return slices.Clone(r.ids)
}
