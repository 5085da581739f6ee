package arena

import (
	"slices"

	"arcade/api"
)

// Used tells how many bytes an arena has.
func (p *Pool) Used(id int) (int, api.Errno) {
	a, e := p.opened(id)
	if e != api.OK {
		return 0, e
	}
	return a.used(), api.OK
}

// Free tells the buffers of a class that are free.
func (p *Pool) Free(class int) []int {
	if class < 0 || class >= len(p.classes) {
		return nil
	}
	return slices.Clone(p.classes[class].free)
}

// Leases tells the buffers of an arena.
func (p *Pool) Leases(id int) []api.Lease {
	a, e := p.opened(id)
	if e != api.OK {
		return nil
	}
	var leases []api.Lease
	for _, l := range a.loans {
		leases = append(leases, l.Lease)
	}
	return leases
}
