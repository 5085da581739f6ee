package saves

import (
	"slices"

	"arcade/api"
	"arcade/block"
)

// settle makes of what a crash has left one save a name. All areas are looked at ahead of the first write: a store that is broken stays as it is.
func settle(store *block.Store) error {
	var old [api.MaxTenant][]int
	for i := range old {
		list, err := areaOf(store, i+1).check()
		if err != nil {
			return err
		}
		old[i] = outdated(list)
	}
	wrote := false
	for i, numbers := range old {
		for _, n := range numbers {
			if err := areaOf(store, i+1).retire(n); err != nil {
				return err
			}
			wrote = true
		}
	}
	if wrote {
		store.Sync()
	}
	return nil
}

// check tells the used heads of an area, if all of them are good, and go together.
func (a area) check() ([]entry, error) {
	list, err := a.entries()
	if err != nil {
		return nil, err
	}
	if _, err := a.taken(list); err != nil {
		return nil, err
	}
	for i, e := range list {
		if slices.ContainsFunc(list[:i], e.isTwin) {
			return nil, a.broken(e.number, "this name and version is there already")
		}
		if err := a.verify(e); err != nil {
			return nil, err
		}
	}
	return list, nil
}

// verify holds the bytes of a save against its head.
func (a area) verify(e entry) error {
	data, err := a.load(e.head)
	if err != nil {
		return err
	}
	if slices.ContainsFunc(data[e.size:], isSet) {
		return a.broken(e.number, "behind its save stands something")
	}
	if sumOf(data[:e.size]) != e.sum {
		return a.broken(e.number, "its save has another sum")
	}
	return nil
}

func isSet(x byte) bool {
	return x != 0
}

func (e entry) isTwin(o entry) bool {
	return e.name == o.name && e.version == o.version
}

func (e entry) isOlder(o entry) bool {
	return e.name == o.name && e.version < o.version
}

// outdated tells the heads of whose name there is a later version, by rising numbers.
func outdated(list []entry) []int {
	var old []int
	for _, e := range list {
		if slices.ContainsFunc(list, e.isOlder) {
			old = append(old, e.number)
		}
	}
	return old
}
