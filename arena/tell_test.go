package arena_test

import (
	"testing"

	"arcade/api"
)

// TestA6Used: the classes' sizes count, of the arena's own buffers alone.
func TestA6Used(t *testing.T) {
	p := made(t, 3, 4, 3, 16, 2)
	used(t, p, 0, 0, api.ErrArenaNone)
	open(t, p, 100, 0)
	open(t, p, 100, 1)
	used(t, p, 0, 0, api.OK)
	take(t, p, 0, 1, 0, lease(0, 0, 4))
	used(t, p, 0, 4, api.OK)
	take(t, p, 0, 5, 0, lease(3, 1, 16))
	used(t, p, 0, 20, api.OK)
	used(t, p, 1, 0, api.OK)
	take(t, p, 1, 3, 0, lease(1, 0, 4))
	used(t, p, 0, 20, api.OK)
	used(t, p, 1, 4, api.OK)
	give(t, p, 0, 0, api.OK)
	used(t, p, 0, 16, api.OK)
	store(t, p, 0, 3, 0, filled(16, 1), api.OK)
	used(t, p, 0, 16, api.OK)
	for _, id := range append([]int{2, 3, 64}, far...) {
		used(t, p, id, 0, api.ErrArenaNone)
		leases(t, p, id)
	}
}

// TestA6Leases: in the order in which they were taken, also behind some that were given back and taken anew.
func TestA6Leases(t *testing.T) {
	p := made(t, 2, 4, 4, 16, 4)
	open(t, p, 100, 0)
	open(t, p, 100, 1)
	leases(t, p, 0)
	take(t, p, 0, 16, 2, lease(6, 1, 16))
	take(t, p, 0, 4, 3, lease(3, 0, 4))
	take(t, p, 1, 4, 1, lease(1, 0, 4))
	take(t, p, 0, 16, 0, lease(4, 1, 16))
	take(t, p, 0, 2, 0, lease(0, 0, 4))
	leases(t, p, 0, lease(6, 1, 16), lease(3, 0, 4), lease(4, 1, 16), lease(0, 0, 4))
	leases(t, p, 1, lease(1, 0, 4))
	give(t, p, 0, 3, api.OK)
	leases(t, p, 0, lease(6, 1, 16), lease(4, 1, 16), lease(0, 0, 4))
	give(t, p, 0, 6, api.OK)
	take(t, p, 0, 16, 1, lease(6, 1, 16))
	take(t, p, 0, 4, 1, lease(3, 0, 4))
	leases(t, p, 0, lease(4, 1, 16), lease(0, 0, 4), lease(6, 1, 16), lease(3, 0, 4))
	give(t, p, 0, 3, api.OK)
	leases(t, p, 0, lease(4, 1, 16), lease(0, 0, 4), lease(6, 1, 16))
}

// TestA6Free: by rising numbers, in whatever order they come back, from whomever; none of a class that is none.
func TestA6Free(t *testing.T) {
	p := made(t, 2, 4, 5, 16, 0, 17, 2)
	open(t, p, 100, 0)
	open(t, p, 100, 1)
	for i := range 5 {
		take(t, p, i%2, 4, 0, lease(i, 0, 4))
	}
	free(t, p, 0)
	give(t, p, 1, 3, api.OK)
	free(t, p, 0, 3)
	give(t, p, 0, 4, api.OK)
	free(t, p, 0, 3, 4)
	give(t, p, 0, 0, api.OK)
	free(t, p, 0, 0, 3, 4)
	give(t, p, 0, 2, api.OK)
	free(t, p, 0, 0, 2, 3, 4)
	closes(t, p, 1, 4, api.OK)
	free(t, p, 0, 0, 1, 2, 3, 4)
	free(t, p, 1)
	free(t, p, 2, 5, 6)
	for _, class := range append([]int{3, 4, 7, 8, 9}, far...) {
		free(t, p, class)
	}
}

// TestA6Lists: a list that was told is a copy, its spare room too.
func TestA6Lists(t *testing.T) {
	p := small(t, 100, 100)
	take(t, p, 0, 16, 0, lease(3, 1, 16))
	take(t, p, 0, 4, 1, lease(1, 0, 4))
	give(t, p, 0, 1, api.OK) // behind that both lists have room
	take(t, p, 0, 4, 1, lease(1, 0, 4))
	numbers, others := p.Free(0), p.Free(0)
	list, other := p.Leases(0), p.Leases(0)
	scratch(numbers, 99)
	scratch(list, lease(9, 9, 9))
	scratch(p.Free(1), 98)
	if others[0] != 0 || others[1] != 2 || other[0] != lease(3, 1, 16) || other[1] != lease(1, 0, 4) {
		t.Error("A6: two lists that were told share something")
	}
	free(t, p, 0, 0, 2)
	free(t, p, 1, 4)
	leases(t, p, 0, lease(3, 1, 16), lease(1, 0, 4))
	used(t, p, 0, 20, api.OK)
	take(t, p, 0, 4, 1, lease(2, 0, 4))
	give(t, p, 0, 3, api.OK)
	free(t, p, 0, 0)
	free(t, p, 1, 3, 4)
	if others[0] != 0 || others[1] != 2 || other[0] != lease(3, 1, 16) || other[1] != lease(1, 0, 4) {
		t.Error("A6: a list that was told hangs on what is done later")
	}
}

// TestA6Changes: calls that tell something change nothing.
func TestA6Changes(t *testing.T) {
	p, other := small(t, 30, 30), small(t, 30, 30)
	for i := range 6 {
		for range 3 {
			tells(p)
			p.Load(i%2, i, 3, 1<<20)
			p.Free(i)
		}
		l, e := p.Take(i%2, 3*i, i)
		m, f := other.Take(i%2, 3*i, i)
		if l != m || e != f {
			t.Errorf("A6: Take = %+v, %d in a pool that is looked at, else %+v, %d", l, e, m, f)
		}
	}
	same(t, "A6: a pool that is looked at", tells(p), tells(other))
}
