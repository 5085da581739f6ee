package saves

import (
	"errors"

	"arcade/api"
)

// put keeps a save in sectors that nobody has, and only then does away with the version that it follows: at no time is there neither of them.
func (a area) put(name string, data []byte) error {
	list, err := a.entries()
	if err != nil {
		return err
	}
	old, err := named(list, name)
	isNew := errors.Is(err, errNone)
	if old.version == lastVersion {
		return errFull
	}
	number, sectors, err := a.room(list, piecesFor(len(data)))
	if err != nil {
		return err
	}
	h := head{name: name, version: old.version + 1, size: len(data), sum: sumOf(data)}
	if len(sectors) > 0 {
		h.first = sectors[0]
	}
	if err := a.fill(sectors, data); err != nil {
		return err
	}
	if err := a.enter(number, h); err != nil || isNew {
		return err
	}
	return a.withdraw(old.number)
}

// room finds a head that is not used, and so many data sectors that are not taken.
func (a area) room(list []entry, many int) (int, []int, error) {
	taken, err := a.taken(list)
	if err != nil {
		return 0, nil, err
	}
	heads := lowest(taken, 0, a.heads(), 1)
	sectors := lowest(taken, a.heads(), a.sectors, many)
	if len(heads) < 1 || len(sectors) < many {
		return 0, nil, errFull
	}
	return heads[0], sectors, nil
}

// lowest tells the lowest numbers that are not taken, from one on and below another: so many, or fewer, if there are no more.
func lowest(taken []bool, from, below, many int) []int {
	var list []int
	for n := from; n < below && len(list) < many; n++ {
		if !taken[n] {
			list = append(list, n)
		}
	}
	return list
}

// fill writes the bytes of a save to its data sectors, each of which leads to the next one.
func (a area) fill(sectors []int, data []byte) error {
	for i, n := range sectors {
		b := make([]byte, api.SectorSize)
		copy(b[:pieceSize], data[i*pieceSize:])
		if i+1 < len(sectors) {
			setNumber(b[pieceSize:], sectors[i+1])
		}
		if err := a.write(n, b); err != nil {
			return err
		}
	}
	return nil
}

// enter writes a head twice: the second time it differs in the one byte by which it is used, so that a crash leaves it whole, or not used.
func (a area) enter(n int, h head) error {
	b := h.sector(a.tenant)
	for _, use := range []byte{notUsed, inUse} {
		b[atUsed] = use
		if err := a.write(n, b); err != nil {
			return err
		}
		a.store.Sync()
	}
	return nil
}

// withdraw takes a head out of use, and makes that safe.
func (a area) withdraw(n int) error {
	if err := a.retire(n); err != nil {
		return err
	}
	a.store.Sync()
	return nil
}

func (a area) remove(name string) error {
	e, err := a.find(name)
	if err != nil {
		return err
	}
	return a.withdraw(e.number)
}
