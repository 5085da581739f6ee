package saves

import (
	"iter"
	"slices"

	"arcade/api"
	"arcade/block"
)

// pieceSize is how many bytes of a save a data sector has; in the others stands which one is next.
const pieceSize = api.SectorSize - 2

// area is a tenant's part of the store. Its sectors are counted from its first one on.
type area struct {
	store   *block.Store
	tenant  int
	first   int // that one's number on the store
	sectors int
}

// entry is a head that is used, and its number.
type entry struct {
	head
	number int
}

// piece is a data sector of a save, and what it has of the save's bytes.
type piece struct {
	number int
	bytes  []byte
}

func areaOf(store *block.Store, tenant int) area {
	sectors := store.Sectors() / api.MaxTenant
	return area{store: store, tenant: tenant, first: (tenant - 1) * sectors, sectors: sectors}
}

// heads is how many of the sectors, from the first one on, are heads.
func (a area) heads() int {
	return (a.sectors + 7) / 8
}

// piecesFor is how many data sectors a save of so many bytes has.
func piecesFor(size int) int {
	return (size + pieceSize - 1) / pieceSize
}

// read tells a sector, of which the caller knows that it is one of the area.
func (a area) read(n int) []byte {
	b, _ := a.store.Read(a.first + n)
	return b
}

func (a area) write(n int, b []byte) error {
	if e := a.store.Write(a.first+n, b); e != api.OK {
		return fault{err: errDead, sector: a.first + n, why: "it is not written"}
	}
	return nil
}

// retire writes a head as one that is not used. All but one byte of it stays, so that no crash leaves a third thing.
func (a area) retire(n int) error {
	b := a.read(n)
	b[atUsed] = notUsed
	return a.write(n, b)
}

func (a area) broken(n int, why string) error {
	return fault{err: errBroken, sector: a.first + n, why: why}
}

// entries tells the heads that are used, by rising numbers.
func (a area) entries() ([]entry, error) {
	var list []entry
	for n := range a.heads() {
		b := a.read(n)
		if b[atUsed] == notUsed {
			continue
		}
		h, ok := headOf(b, a.tenant)
		if !ok {
			return nil, a.broken(n, "this is no head of its tenant")
		}
		list = append(list, entry{head: h, number: n})
	}
	return list, nil
}

// pieces goes through the data sectors of a save, from the first one on. They lead it: where they lead elsewhere than to as many data sectors as the save must have, it ends with what is wrong.
func (a area) pieces(h head) iter.Seq2[piece, error] {
	return func(yield func(piece, error) bool) {
		next := h.first
		for range piecesFor(h.size) {
			if next < a.heads() || next >= a.sectors {
				yield(piece{}, a.broken(next, "this is no data sector, but one must follow"))
				return
			}
			b := a.read(next)
			if !yield(piece{number: next, bytes: b[:pieceSize]}, nil) {
				return
			}
			next = numberOf(b[pieceSize:])
		}
		if next != 0 {
			yield(piece{}, a.broken(next, "no data sector may follow"))
		}
	}
}

// taken tells for each sector whether it is a head that is used, or a data sector of one of them, which no two may be at.
func (a area) taken(list []entry) ([]bool, error) {
	taken := make([]bool, a.sectors)
	for _, e := range list {
		taken[e.number] = true
		for p, err := range a.pieces(e.head) {
			if err != nil {
				return nil, err
			}
			if taken[p.number] {
				return nil, a.broken(p.number, "this data sector is taken twice")
			}
			taken[p.number] = true
		}
	}
	return taken, nil
}

// load tells the bytes of all data sectors of a save: its own, and those behind them.
func (a area) load(h head) ([]byte, error) {
	var data []byte
	for p, err := range a.pieces(h) {
		if err != nil {
			return nil, err
		}
		data = append(data, p.bytes...)
	}
	return data, nil
}

func (a area) find(name string) (entry, error) {
	list, err := a.entries()
	if err != nil {
		return entry{}, err
	}
	return named(list, name)
}

func named(list []entry, name string) (entry, error) {
	i := slices.IndexFunc(list, func(e entry) bool { return e.name == name })
	if i < 0 {
		return entry{}, errNone
	}
	return list[i], nil
}

func (a area) get(name string) ([]byte, error) {
	e, err := a.find(name)
	if err != nil {
		return nil, err
	}
	data, err := a.load(e.head)
	if err != nil {
		return nil, err
	}
	return data[:e.size], nil
}

func (a area) used() (int, error) {
	list, err := a.entries()
	if err != nil {
		return 0, err
	}
	taken, err := a.taken(list)
	if err != nil {
		return 0, err
	}
	many := 0
	for _, is := range taken {
		if is {
			many++
		}
	}
	return many, nil
}
