package saves_test

import (
	"bytes"
	"fmt"
	"strings"
	"testing"

	"arcade/api"
	"arcade/block"
	"arcade/saves"
)

// The examples of the document.
func TestV2Examples(t *testing.T) {
	b, s := fresh(t, 196)
	put(t, s, 1, "a", text(600, 1))
	used(t, s, 1, 3)
	stands(t, b, 1, "a", record{version: 1, data: text(600, 1), head: 0, sectors: []int{3, 4}})
	put(t, s, 1, "a", text(10, 2))
	used(t, s, 1, 2)
	stands(t, b, 1, "a", record{version: 2, data: text(10, 2), head: 1, sectors: []int{5}})
	put(t, s, 1, "a", nil)
	used(t, s, 1, 1)
	stands(t, b, 1, "a", record{version: 3, head: 0})
	notPut(t, b, s, 2, "b", text(11000, 1), api.ErrSaveFull)
	notPut(t, b, s, 1, "A", nil, api.ErrArg)
	notPut(t, b, s, 9, "a", nil, api.ErrArg)
	notGot(t, s, 2, "a", api.ErrSaveNone)
	_, other := fresh(t, 196)
	if e := other.Put(2, "b", text(11000, 1)); e != api.ErrSaveFull {
		t.Errorf("V2: Put of 22 sectors = %d", e)
	}
}

// stands holds that a save stands on the store as its record says.
func stands(t *testing.T, b *block.Store, tenant int, name string, r record) {
	t.Helper()
	image := b.Image()
	if got := sectorOf(image, tenant, r.head); !bytes.Equal(got, headOf(tenant, name, r)) {
		t.Errorf("11.2: head %d of tenant %d: %v", r.head, tenant, got[:40])
	}
	for i, want := range dataOf(r) {
		if !bytes.Equal(sectorOf(image, tenant, r.sectors[i]), want) {
			t.Errorf("11.2: data sector %d of tenant %d", r.sectors[i], tenant)
		}
	}
}

func TestV2Arguments(t *testing.T) {
	b, s := fresh(t, 196)
	put(t, s, 1, "a", text(3, 1))
	wrongArgs(t, b, s)
	b.Limit(0)
	wrongArgs(t, b, s)
	get(t, s, 1, "a", text(3, 1))
	for _, n := range []int{1, 7, 8} { // where no save, or none with bytes, has room
		b, s := fresh(t, n)
		wrongArgs(t, b, s)
	}
}

// Each byte as a name of its own, and in the midst of one.
func TestV2EachByteOfAName(t *testing.T) {
	b, s := fresh(t, 72)
	for x := range 256 {
		for _, name := range []string{string([]byte{byte(x)}), string([]byte{'a', byte(x), 'a'}), "fifteen-letters" + string([]byte{byte(x)})} {
			if strings.IndexByte(letters, byte(x)) < 0 {
				notPut(t, b, s, 1, name, nil, api.ErrArg)
				notDropped(t, b, s, 1, name, api.ErrArg)
				notGot(t, s, 1, name, api.ErrArg)
				continue
			}
			put(t, s, 1, name, []byte(name))
			get(t, s, 1, name, []byte(name))
			list(t, s, 1, api.SaveInfo{Name: name, Version: 1, Size: len(name)})
			drop(t, s, 1, name)
		}
	}
}

func TestV2LengthOfAName(t *testing.T) {
	b, s := fresh(t, 4096)
	for n := range 40 {
		name := strings.Repeat("n", n)
		if n < 1 || n > 16 {
			notPut(t, b, s, 4, name, nil, api.ErrArg)
			notDropped(t, b, s, 4, name, api.ErrArg)
			continue
		}
		put(t, s, 4, name, text(n, 1))
		stands(t, b, 4, name, record{version: 1, data: text(n, 1), head: n - 1, sectors: []int{63 + n}})
	}
	for n := 1; n <= 16; n++ {
		get(t, s, 4, strings.Repeat("n", n), text(n, 1))
	}
}

func TestV2Sizes(t *testing.T) {
	for _, n := range []int{0, 1, 2, 509, 510, 511, 512, 1019, 1020, 1021, 65535, 65536, 131070, 131071, 131072} {
		for _, tenant := range []int{1, 8} {
			b, s := fresh(t, 4096)
			put(t, s, tenant, "save", text(n, 5))
			get(t, s, tenant, "save", text(n, 5))
			used(t, s, tenant, 1+many(n))
			r := record{version: 1, data: text(n, 5)}
			for i := range many(n) {
				r.sectors = append(r.sectors, 64+i)
			}
			stands(t, b, tenant, "save", r)
			get(t, open(t, of(t, b.Image())), tenant, "save", text(n, 5))
		}
	}
	b, s := fresh(t, 4096)
	notPut(t, b, s, 1, "save", make([]byte, 131073), api.ErrArg)
	notPut(t, b, s, 8, "save", make([]byte, 1<<20), api.ErrArg)
}

// deed is a Put, or a Delete.
type deed struct {
	tenant int
	name   string
	data   []byte
	drop   bool
}

func (d deed) do(s *saves.Saves) api.Errno {
	if d.drop {
		return s.Delete(d.tenant, d.name)
	}
	return s.Put(d.tenant, d.name, d.data)
}

func (d deed) steps(m *model) ([]step, api.Errno) {
	if d.drop {
		return m.drop(d.tenant, d.name)
	}
	return m.put(d.tenant, d.name, d.data)
}

func (d deed) String() string {
	if d.drop {
		return fmt.Sprintf("Delete(%d, %q)", d.tenant, d.name)
	}
	return fmt.Sprintf("Put(%d, %q, %d bytes)", d.tenant, d.name, len(d.data))
}

// deeds are some that come one behind the other: new saves, further versions that are longer or shorter, saves of no bytes, holes that are filled.
func deeds() []deed {
	return []deed{
		{tenant: 1, name: "a", data: text(1200, 1)},
		{tenant: 1, name: "b", data: text(700, 2)},
		{tenant: 8, name: "a", data: text(510, 3)},
		{tenant: 1, name: "a", data: text(511, 4)},
		{tenant: 1, name: "c"},
		{tenant: 1, name: "b", drop: true},
		{tenant: 1, name: "a", data: text(3000, 5)},
		{tenant: 1, name: "c", data: text(1, 6)},
		{tenant: 8, name: "a", data: text(510, 3)},
		{tenant: 1, name: "a"},
		{tenant: 8, name: "a", drop: true},
		{tenant: 1, name: "b", data: text(5000, 7)},
		{tenant: 1, name: "c", drop: true},
		{tenant: 3, name: "sixteen-letters_", data: text(2040, 8)},
		{tenant: 1, name: "a", data: text(2041, 9)},
		{tenant: 1, name: "a", data: text(509, 10)},
	}
}

// ahead are saves and their model behind the first of the deeds.
func ahead(t *testing.T, sectors, first int) (*block.Store, *saves.Saves, *model) {
	t.Helper()
	b, s := fresh(t, sectors)
	m := modelOf(b.Image())
	for _, d := range deeds()[:first] {
		if e := d.do(s); e != api.OK {
			t.Fatalf("V2: %v = %d", d, e)
		}
		d.steps(m)
	}
	return b, s, m
}

// What is written, in which order, and where it is synced: a limit at each of the writes shows it; behind that the saves are dead.
func TestV2EachWrite(t *testing.T) {
	for i, d := range deeds() {
		_, _, m := ahead(t, 196, i)
		was := bytes.Clone(m.image)
		steps, want := d.steps(m)
		if want != api.OK {
			t.Fatalf("%v is refused by the model: %d", d, want)
		}
		for limit := range writes(steps) + 2 {
			b, s, _ := ahead(t, 196, i)
			b.Limit(limit)
			want := api.OK
			if limit < writes(steps) {
				want = api.ErrSaveDead
			}
			if e := d.do(s); e != want {
				t.Errorf("V2: %v behind a limit of %d = %d, want %d", d, limit, e, want)
			}
			now, safe, pending := play(was, steps, limit)
			if !bytes.Equal(b.Image(), now) || !bytes.Equal(b.Crash(nil), safe) || b.Pending() != pending {
				t.Errorf("11.3: what stands on the store behind %d writes of %v", limit, d)
			}
			if want == api.ErrSaveDead {
				dead(t, b, s)
			} else {
				same(t, d.String(), tells(s), tells(m))
			}
		}
	}
}

// As many heads as there are, and one more.
func TestV2Heads(t *testing.T) {
	for _, sectors := range []int{8, 64, 72, 128, 196, 4096} {
		b, s := fresh(t, sectors)
		h := heads(sectors / 8)
		for i := range h {
			put(t, s, 7, fmt.Sprint("n", i), nil)
			used(t, s, 7, i+1)
		}
		b.Limit(0) // that there is no room is told ahead of a write that would be refused
		notPut(t, b, s, 7, "more", nil, api.ErrSaveFull)
		notPut(t, b, s, 7, "n0", nil, api.ErrSaveFull)
		notPut(t, b, s, 7, "more", text(1, 1), api.ErrSaveFull)
		b.Limit(1000)
		put(t, s, 6, "n0", nil)
		drop(t, s, 7, fmt.Sprint("n", h/2))
		put(t, s, 7, "more", nil)
		stands(t, b, 7, "more", record{version: 1, head: h / 2})
	}
}

// As many data sectors as there are, and one more: new ones, and for a save of which the older version has some still.
func TestV2DataSectors(t *testing.T) {
	for _, sectors := range []int{16, 72, 79, 196} {
		a := sectors / 8
		room := a - heads(a)
		b, s := fresh(t, sectors)
		b.Limit(0)
		notPut(t, b, s, 2, "a", make([]byte, 510*room+1), api.ErrSaveFull)
		b.Limit(1000)
		put(t, s, 2, "a", text(510*room, 1))
		used(t, s, 2, 1+room)
		get(t, s, 2, "a", text(510*room, 1))
		notPut(t, b, s, 2, "a", text(1, 1), api.ErrSaveFull)
		notPut(t, b, s, 2, "b", text(1, 1), api.ErrSaveFull)
		put(t, s, 3, "a", text(510*room, 2))
		if heads(a) < 2 {
			continue
		}
		put(t, s, 2, "b", nil)
		drop(t, s, 2, "b")
		put(t, s, 2, "a", nil)
		put(t, s, 2, "a", text(510*(room-1), 3))
		notPut(t, b, s, 2, "a", text(511, 3), api.ErrSaveFull)
		put(t, s, 2, "a", text(510, 3))
		used(t, s, 2, 2)
	}
}

func TestV2NoAreas(t *testing.T) {
	for sectors := 1; sectors < 8; sectors++ {
		b, s := fresh(t, sectors)
		for tenant := 1; tenant <= 8; tenant++ {
			notPut(t, b, s, tenant, "a", nil, api.ErrSaveFull)
			notPut(t, b, s, tenant, "a", text(1, 1), api.ErrSaveFull)
			notDropped(t, b, s, tenant, "a", api.ErrSaveNone)
			notGot(t, s, tenant, "a", api.ErrSaveNone)
			list(t, s, tenant)
			used(t, s, tenant, 0)
		}
	}
}

// Areas of one sector have one head alone: for a save of no bytes.
func TestV2NoDataSectors(t *testing.T) {
	for sectors := 8; sectors < 16; sectors++ {
		b, s := fresh(t, sectors)
		for tenant := 1; tenant <= 8; tenant++ {
			notPut(t, b, s, tenant, "a", text(1, 1), api.ErrSaveFull)
			put(t, s, tenant, "a", nil)
			get(t, s, tenant, "a", nil)
			used(t, s, tenant, 1)
			notPut(t, b, s, tenant, "a", nil, api.ErrSaveFull)
			notPut(t, b, s, tenant, "b", nil, api.ErrSaveFull)
		}
		drop(t, s, 8, "a")
		put(t, s, 8, "b", nil)
		list(t, open(t, of(t, b.Image())), 8, api.SaveInfo{Name: "b", Version: 1})
	}
}

func TestV2LastVersion(t *testing.T) {
	image := make([]byte, 196*size)
	lay(image, 3, "old", record{version: 1<<32 - 2, data: text(5, 1), sectors: []int{3}})
	lay(image, 4, "old", record{version: 1<<31 - 1})
	b := of(t, image)
	s := open(t, b)
	put(t, s, 4, "old", nil)
	list(t, s, 4, api.SaveInfo{Name: "old", Version: 1 << 31})
	put(t, s, 3, "old", text(6, 2))
	list(t, s, 3, api.SaveInfo{Name: "old", Version: 1<<32 - 1, Size: 6})
	b.Limit(0)
	notPut(t, b, s, 3, "old", nil, api.ErrSaveFull)
	notPut(t, b, s, 3, "old", text(7, 1), api.ErrSaveFull)
	b.Limit(100)
	get(t, s, 3, "old", text(6, 2))
	put(t, s, 3, "new", nil)
	drop(t, s, 3, "old")
	put(t, s, 3, "old", nil)
	list(t, s, 3, api.SaveInfo{Name: "new", Version: 1}, api.SaveInfo{Name: "old", Version: 1})
}

func TestV2Delete(t *testing.T) {
	b, s := fresh(t, 196)
	notDropped(t, b, s, 1, "a", api.ErrSaveNone)
	put(t, s, 1, "a", text(600, 1))
	put(t, s, 1, "aa", text(600, 2))
	put(t, s, 2, "a", text(600, 3))
	notDropped(t, b, s, 3, "a", api.ErrSaveNone)
	notDropped(t, b, s, 1, "b", api.ErrSaveNone)
	drop(t, s, 1, "a")
	notDropped(t, b, s, 1, "a", api.ErrSaveNone)
	notGot(t, s, 1, "a", api.ErrSaveNone)
	list(t, s, 1, api.SaveInfo{Name: "aa", Version: 1, Size: 600})
	used(t, s, 1, 3)
	get(t, s, 2, "a", text(600, 3))
	put(t, s, 1, "a", text(1, 4))
	list(t, s, 1, api.SaveInfo{Name: "a", Version: 1, Size: 1}, api.SaveInfo{Name: "aa", Version: 1, Size: 600})
	stands(t, b, 1, "a", record{version: 1, data: text(1, 4), head: 0, sectors: []int{3}})
	b.Limit(0)
	notDropped(t, b, s, 1, "none", api.ErrSaveNone)
	get(t, s, 1, "a", text(1, 4))
}

// The data are not changed, and what is done to them behind a Put is not seen.
func TestV2KeepsNoList(t *testing.T) {
	for _, n := range []int{0, 1, 509, 510, 511, 1020, 1300} {
		b, s := fresh(t, 196)
		data := text(n, 1)
		given := roomy(data, 77)
		put(t, s, 1, "a", given)
		put(t, s, 2, "a", given)
		if !spared(given, data, 77) {
			t.Errorf("R3: a Put of %d bytes has changed its data", n)
		}
		image, was := b.Image(), tells(s)
		scratch(given, 55)
		same(t, "R3: the data were written into", was, tells(s))
		if !bytes.Equal(b.Image(), image) {
			t.Errorf("R3: a Put of %d bytes has kept its data", n)
		}
		stands(t, b, 1, "a", record{version: 1, data: data, sectors: []int{3, 4, 5}[:many(n)]})
	}
}
