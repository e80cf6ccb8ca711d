package gate

import "subway/api"

// count is how many one has of something, and how many one may have.
type count struct {
	has  int
	most int
}

// counts are those of a tenant, by what they count. That begins at 1: the place 0 is nobody's.
type counts [api.Visitors + 1]count

// counted: is that something that tenants have some of?
func counted(what int) bool {
	return what == api.Names || what == api.Visitors
}

// more has one have one more of that, less one less: false, if no more may be, or none is there. many is how many one has.
func (c *counts) more(what int) bool {
	if c[what].has >= c[what].most {
		return false
	}
	c[what].has++
	return true
}

func (c *counts) less(what int) bool {
	if c[what].has == 0 {
		return false
	}
	c[what].has--
	return true
}

func (c *counts) many(what int) int {
	return c[what].has
}
