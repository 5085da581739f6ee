package saves_test

import (
	"bytes"
	"encoding/binary"
	"fmt"
	"hash/crc32"
	"math/rand"
	"slices"
	"strings"
	"testing"

	"arcade/api"
	"arcade/saves"
)

func TestV1NoStore(t *testing.T) {
	if s, e := saves.Open(nil); s != nil || e != api.ErrArg {
		t.Errorf("V1: Open(nil) = %v, %d, want %d", s != nil, e, api.ErrArg)
	}
}

// A store of which all bytes are 0 is one without saves, of whatever size; nothing is written to it.
func TestV1Empty(t *testing.T) {
	for _, n := range []int{1, 2, 7, 8, 9, 15, 16, 63, 64, 65, 71, 72, 73, 196, 200, 4095, 4096} {
		b := made(t, n)
		b.Limit(0)
		s := open(t, b)
		for tenant := 1; tenant <= 8; tenant++ {
			list(t, s, tenant)
			used(t, s, tenant, 0)
		}
		if b.Pending() != 0 || slices.ContainsFunc(b.Image(), func(x byte) bool { return x != 0 }) {
			t.Errorf("V1: Open of %d sectors has written", n)
		}
	}
}

// What stands in heads that are not used, in data sectors that are not taken, and behind the eighth area, is nobody's.
func TestV1WhatIsNobodys(t *testing.T) {
	draw := rand.New(rand.NewSource(11))
	for _, sectors := range []int{1, 7, 15, 64 + 7, 196, 207} {
		image := make([]byte, sectors*size)
		draw.Read(image)
		for i := range image {
			image[i] |= 1
		}
		for tenant := 1; tenant <= 8; tenant++ {
			for n := range heads(area(image)) {
				sectorOf(image, tenant, n)[0] = 0
			}
		}
		b := of(t, image)
		s := open(t, b)
		for tenant := 1; tenant <= 8; tenant++ {
			list(t, s, tenant)
			used(t, s, tenant, 0)
		}
		if !bytes.Equal(b.Image(), image) || b.Pending() != 0 {
			t.Errorf("V1: Open of %d sectors has written", sectors)
		}
	}
}

// laid is the bytes of a store of so many sectors, with a save of two data sectors, which lead back, in each area; and what it is.
func laid(sectors int) ([]byte, record) {
	image := make([]byte, sectors*size)
	h := heads(area(image))
	r := record{version: 258, data: text(700, 3), head: h - 1, sectors: []int{h + 4, h + 1}}
	for tenant := 1; tenant <= 8; tenant++ {
		lay(image, tenant, "some-name_9", r)
	}
	return image, r
}

func TestV1GoodHeads(t *testing.T) {
	for _, sectors := range []int{64, 72, 79, 196} {
		image, r := laid(sectors)
		b := of(t, image)
		s := open(t, b)
		for tenant := 1; tenant <= 8; tenant++ {
			get(t, s, tenant, "some-name_9", r.data)
			list(t, s, tenant, api.SaveInfo{Name: "some-name_9", Version: 258, Size: 700})
			used(t, s, tenant, 3)
		}
		if !bytes.Equal(b.Image(), image) || b.Pending() != 0 {
			t.Errorf("V1: Open of %d sectors has written", sectors)
		}
	}
}

// Each bit of a head, turned: but for those of the version, and for a head that is then not used, the store is broken.
func TestV1EachBitOfAHead(t *testing.T) {
	good, r := laid(72)
	for at := range size {
		for bit := range 8 {
			tenant := 1 + (at+bit)%8
			image := bytes.Clone(good)
			h := sectorOf(image, tenant, r.head)
			h[at] ^= 1 << bit
			which := fmt.Sprintf("tenant %d, byte %d of a head is %d", tenant, at, h[at])
			switch {
			case at == 0 && bit == 0:
				notGot(t, open(t, of(t, image)), tenant, "some-name_9", api.ErrSaveNone)
			case at >= 20 && at < 24:
				get(t, open(t, of(t, image)), tenant, "some-name_9", r.data)
			case at >= 4 && at < 15 && strings.IndexByte(letters, h[at]) >= 0:
				get(t, open(t, of(t, image)), tenant, string(h[4:15]), r.data)
			default:
				notOpened(t, which, image, api.ErrSaveBroken)
			}
		}
	}
}

const letters = "abcdefghijklmnopqrstuvwxyz0123456789-_"

// Each byte at the first, in the midst and at the last place of a name.
func TestV1EachByteOfAName(t *testing.T) {
	for _, length := range []int{1, 2, 16} {
		for _, at := range []int{0, length / 2, length - 1} {
			for x := range 256 {
				name := bytes.Repeat([]byte{'q'}, length)
				name[at] = byte(x)
				image := make([]byte, 64*size)
				lay(image, 3, string(name), record{version: 1, data: text(9, 1), sectors: []int{1}})
				if strings.IndexByte(letters, byte(x)) < 0 {
					notOpened(t, fmt.Sprintf("name %q", name), image, api.ErrSaveBroken)
					continue
				}
				get(t, open(t, of(t, image)), 3, string(name), text(9, 1))
			}
		}
	}
}

// Names of a length that may not be; and ones that are longer, or shorter, than the head says.
func TestV1LengthOfAName(t *testing.T) {
	for length := range 256 {
		image := make([]byte, 64*size)
		lay(image, 1, "sixteen-letters1", record{version: 1})
		image[3] = byte(length)
		if length != 16 {
			notOpened(t, fmt.Sprintf("a name of 16 bytes, told as %d", length), image, api.ErrSaveBroken)
		}
		image = make([]byte, 64*size)
		lay(image, 1, "a", record{version: 1})
		image[3] = byte(length)
		if length != 1 {
			notOpened(t, fmt.Sprintf("a name of 1 byte, told as %d", length), image, api.ErrSaveBroken)
		}
	}
	image := make([]byte, 64*size)
	copy(image, []byte{1, 83, 1, 0})
	image[20] = 1
	notOpened(t, "a name of no byte", image, api.ErrSaveBroken)
}

func TestV1Tenant(t *testing.T) {
	for tenant := 1; tenant <= 8; tenant++ {
		for x := range 256 {
			image := make([]byte, 64*size)
			lay(image, tenant, "a", record{version: 1})
			sectorOf(image, tenant, 0)[2] = byte(x)
			if x != tenant {
				notOpened(t, fmt.Sprintf("tenant %d, told as %d", tenant, x), image, api.ErrSaveBroken)
			}
		}
	}
}

func TestV1Version(t *testing.T) {
	for _, version := range []int{1, 2, 255, 256, 65536, 1<<31 - 1, 1 << 31, 1<<32 - 1} {
		image := make([]byte, 64*size)
		lay(image, 2, "a", record{version: version})
		list(t, open(t, of(t, image)), 2, api.SaveInfo{Name: "a", Version: version})
	}
	image := make([]byte, 64*size)
	lay(image, 2, "a", record{version: 0})
	notOpened(t, "a version of 0", image, api.ErrSaveBroken)
}

// wide is the bytes of a store of the most sectors, with one save of so many bytes, right in all but perhaps its size.
func wide(n int) ([]byte, record) {
	image := make([]byte, 4096*size)
	r := record{version: 1, data: text(n, 2), head: 63}
	for i := range many(n) {
		r.sectors = append(r.sectors, 511-i)
	}
	lay(image, 8, "wide", r)
	return image, r
}

func TestV1Size(t *testing.T) {
	for _, n := range []int{0, 1, 509, 510, 511, 1019, 1020, 1021, 131070, 131071, 131072} {
		image, r := wide(n)
		s := open(t, of(t, image))
		get(t, s, 8, "wide", r.data)
		used(t, s, 8, 1+many(n))
	}
	for _, n := range []int{131073, 131580, 131581, 448 * 510} {
		image, _ := wide(n)
		notOpened(t, fmt.Sprintf("a save of %d bytes", n), image, api.ErrSaveBroken)
	}
}

// A size that is another than that of the data sectors, with the sum of so many bytes.
func TestV1AnotherSize(t *testing.T) {
	for _, told := range []int{0, 1, 509, 510, 511, 699, 701, 1019, 1020, 1021, 1530, 1531, 131072, 131073, 1 << 24, 1<<31 - 1, 1 << 31, 1<<32 - 1} {
		image, r := laid(72)
		h := sectorOf(image, 8, r.head)
		binary.LittleEndian.PutUint32(h[24:], uint32(told))
		notOpened(t, fmt.Sprintf("a size of %d", told), image, api.ErrSaveBroken)
		all := append(bytes.Clone(r.data), make([]byte, max(told-len(r.data), 0)&0xfffff)...)
		binary.LittleEndian.PutUint32(h[28:], crc32.ChecksumIEEE(all[:min(told, len(all))]))
		if told != 701 && told != 1019 && told != 1020 {
			notOpened(t, fmt.Sprintf("a size of %d, with its sum", told), image, api.ErrSaveBroken)
		} else {
			get(t, open(t, of(t, image)), 8, "some-name_9", all)
		}
	}
}

// Sums that are wrong: of the head, and by each bit of the data; and bytes behind the last ones that are not 0.
func TestV1Sum(t *testing.T) {
	good, r := laid(72)
	for at := range 510 {
		for i := range 2 {
			image := bytes.Clone(good)
			sectorOf(image, 5, r.sectors[i])[at] ^= 1 << (at % 8)
			notOpened(t, fmt.Sprintf("byte %d of data sector %d", at, i), image, api.ErrSaveBroken)
		}
	}
	for _, sum := range []uint32{0, 1, 1<<32 - 1, ^crc32.ChecksumIEEE(r.data), crc32.Checksum(r.data, crc32.MakeTable(crc32.Castagnoli))} {
		image := bytes.Clone(good)
		binary.LittleEndian.PutUint32(sectorOf(image, 5, r.head)[28:], sum)
		notOpened(t, fmt.Sprintf("a sum of %d", sum), image, api.ErrSaveBroken)
	}
	image := make([]byte, 64*size)
	lay(image, 1, "a", record{version: 1})
	image[28] = 1
	notOpened(t, "a sum of no bytes that is not 0", image, api.ErrSaveBroken)
}

// Where the first data sector, and the ones behind it, may not lead to; each time with the sum of what would be found there.
func TestV1Leads(t *testing.T) {
	good, r := laid(79)
	a := area(good)
	h := heads(a)
	third := record{version: 1, data: text(20, 9), head: 0, sectors: []int{h}}
	lay(good, 5, "other", third)
	get(t, open(t, of(t, good)), 5, "some-name_9", r.data)
	for _, to := range []int{0, 1, h - 1, h, r.sectors[0], r.sectors[1], h + 2, a - 1, a, a + h, a + h + 4, 255, 256, 256 + h + 4, 256 + h + 1, 4095, 32768, 65535} {
		for from := range 3 {
			image := bytes.Clone(good)
			place := sectorOf(image, 5, r.head)[32:34]
			if from > 0 {
				place = sectorOf(image, 5, r.sectors[from-1])[510:512]
			}
			if int(binary.LittleEndian.Uint16(place)) == to {
				continue
			}
			binary.LittleEndian.PutUint16(place, uint16(to))
			which := fmt.Sprintf("lead %d goes to %d", from, to)
			notOpened(t, which, image, api.ErrSaveBroken)
			binary.LittleEndian.PutUint32(sectorOf(image, 5, r.head)[28:], sumThere(image, 5, r.head))
			if from == 1 && (to == h+2 || to == a-1) { // data sectors that are not taken: with its sum that is a save
				used(t, open(t, of(t, image)), 5, 5)
				continue
			}
			notOpened(t, which+", with its sum", image, api.ErrSaveBroken)
		}
	}
}

// sumThere is the sum of a save of 700 bytes as its sectors lead, wherever these lie on the store.
func sumThere(image []byte, tenant, head int) uint32 {
	at := func(n int) []byte {
		from := ((tenant-1)*area(image) + n) * size
		if from+size > len(image) {
			return make([]byte, size)
		}
		return image[from : from+size]
	}
	first := at(int(binary.LittleEndian.Uint16(at(head)[32:])))
	second := at(int(binary.LittleEndian.Uint16(first[510:])))
	return crc32.ChecksumIEEE(append(bytes.Clone(first[:510]), second[:190]...))
}

// A head that is not used is no data sector, not even if all that stands in it would be right.
func TestV1HeadsAreNoDataSectors(t *testing.T) {
	for _, c := range []struct {
		sectors []int
		want    api.Errno
	}{{[]int{3, 4}, api.OK}, {[]int{1, 3}, api.ErrSaveBroken}, {[]int{3, 1}, api.ErrSaveBroken}, {[]int{2, 1}, api.ErrSaveBroken}, {[]int{4, 2}, api.ErrSaveBroken}, {[]int{23, 4}, api.OK}} {
		image := make([]byte, 196*size)
		data := text(1000, 1)
		data[0], data[510] = 0, 0 // so that such a head is not used
		lay(image, 2, "a", record{version: 1, data: data, sectors: c.sectors})
		if c.want == api.OK {
			get(t, open(t, of(t, image)), 2, "a", data)
			continue
		}
		notOpened(t, fmt.Sprintf("data sectors %v", c.sectors), image, c.want)
	}
}

func TestV1NoBytesNoSector(t *testing.T) {
	for _, to := range []int{1, 2, 7, 8, 65535} {
		image := make([]byte, 64*size)
		lay(image, 1, "a", record{version: 1})
		binary.LittleEndian.PutUint16(image[32:], uint16(to))
		notOpened(t, fmt.Sprintf("a save of no bytes that leads to %d", to), image, api.ErrSaveBroken)
	}
}

// A save that must have more data sectors than its area has, and leads round and round.
func TestV1RoundAndRound(t *testing.T) {
	image := make([]byte, 64*size)
	for n := 1; n < 8; n++ {
		binary.LittleEndian.PutUint16(sectorOf(image, 1, n)[510:], uint16(n%7+1))
	}
	r := record{version: 1, data: make([]byte, 131072), sectors: []int{1}}
	copy(image, headOf(1, "a", r))
	notOpened(t, "round and round", image, api.ErrSaveBroken)
}

// A data sector of two saves, of which each alone is good: of two names, of two versions of one name, at the front, in the midst, at the end.
func TestV1InCommon(t *testing.T) {
	for _, c := range []struct{ a, b []int }{
		{[]int{3, 4}, []int{3, 4}},
		{[]int{3, 4}, []int{5, 4}},
		{[]int{4}, []int{4}},
		{[]int{3, 5, 7}, []int{4, 5, 7}},
		{[]int{3, 5, 7}, []int{7}},
	} {
		for _, name := range []string{"a", "b"} {
			image := make([]byte, 196*size)
			data := text(510*len(c.a), 4)
			lay(image, 4, "a", record{version: 1, data: data, head: 0, sectors: c.a})
			get(t, open(t, of(t, image)), 4, "a", data)
			tail := data[510*(len(c.a)-len(c.b)):]
			lay(image, 4, name, record{version: 2, data: tail, head: 2, sectors: c.b})
			notOpened(t, fmt.Sprintf("%v and %v", c.a, c.b), image, api.ErrSaveBroken)
			alone := bytes.Clone(image)
			sectorOf(alone, 4, 0)[0] = 0
			get(t, open(t, of(t, alone)), 4, name, tail)
		}
	}
}

func TestV1Twins(t *testing.T) {
	for _, data := range [][]byte{nil, text(5, 1), text(5, 2)} {
		image := make([]byte, 196*size)
		lay(image, 6, "twin", record{version: 7, data: text(5, 1), head: 0, sectors: []int{3}})
		r := record{version: 7, data: data, head: 2, sectors: []int{9}[:many(len(data))]}
		lay(image, 6, "twin", r)
		notOpened(t, "twins", image, api.ErrSaveBroken)
		lay(image, 6, "twin", record{version: 8, head: 1})
		notOpened(t, "twins with a later one", image, api.ErrSaveBroken)
		image = make([]byte, 196*size)
		lay(image, 6, "twin", record{version: 7, head: 0})
		lay(image, 7, "twin", r)
		lay(image, 7, "twim", record{version: 7, head: 0})
		s := open(t, of(t, image))
		get(t, s, 6, "twin", nil)
		get(t, s, 7, "twin", data)
	}
}

// several is the bytes of a store with names of one, two and three versions in some areas; its heads that are outdated, by rising sectors of the store; and the saves that are left.
func several() ([]byte, []step, *model) {
	image := make([]byte, 8*40*size) // 5 heads an area
	m := modelOf(nil)
	add := func(tenant int, name string, r record, last bool) {
		lay(image, tenant, name, r)
		if last {
			m.tenants[tenant][name] = r
		}
	}
	add(1, "a", record{version: 255, data: text(600, 1), head: 1, sectors: []int{6, 5}}, false)
	add(1, "b", record{version: 2, head: 2}, true)
	add(1, "a", record{version: 256, data: text(3, 2), head: 3, sectors: []int{9}}, true)
	add(2, "a", record{version: 1, head: 0}, true)
	add(5, "x", record{version: 1<<32 - 1, data: text(1, 3), head: 0, sectors: []int{39}}, true)
	add(5, "x", record{version: 1<<31 - 1, data: text(2, 3), head: 2, sectors: []int{7}}, false)
	add(5, "x", record{version: 1 << 31, data: text(3, 3), head: 4, sectors: []int{8}}, false)
	add(8, "c", record{version: 3, head: 0}, false)
	add(8, "d", record{version: 9, head: 1}, false)
	add(8, "d", record{version: 10, data: text(510, 4), head: 2, sectors: []int{5}}, true)
	add(8, "c", record{version: 4, head: 3}, true)
	add(8, "c", record{version: 2, head: 4}, false)
	var steps []step
	for _, n := range []int{1, 4*40 + 2, 4*40 + 4, 7 * 40, 7*40 + 1, 7*40 + 4} {
		steps = append(steps, step{n, with(0, image[n*size:n*size+size])})
	}
	m.image, _, _ = play(image, steps, len(steps))
	return image, append(steps, step{}), m
}

// Of each name the greatest version is left; the others are written as not used, by rising sectors, and all of them are safe behind that.
func TestV1Outdated(t *testing.T) {
	image, steps, m := several()
	for limit := writes(steps); limit < writes(steps)+2; limit++ {
		b := of(t, image)
		b.Limit(limit)
		s := open(t, b)
		same(t, "V1: saves of several versions", tells(s), tells(m))
		if !bytes.Equal(b.Image(), m.image) || !bytes.Equal(b.Crash(nil), m.image) || b.Pending() != 0 {
			t.Error("11.3: what stands on the store behind an Open")
		}
	}
}

// Where a write is refused the saves are not opened; what was written ahead of that is there, and is not safe.
func TestV1WritesAreRefused(t *testing.T) {
	image, steps, m := several()
	for limit := range writes(steps) {
		b := of(t, image)
		b.Limit(limit)
		if s, e := saves.Open(b); s != nil || e != api.ErrSaveDead {
			t.Errorf("V1: Open behind a limit of %d = %v, %d", limit, s != nil, e)
		}
		now, safe, pending := play(image, steps, limit)
		if !bytes.Equal(b.Image(), now) || !bytes.Equal(b.Crash(nil), safe) || b.Pending() != pending {
			t.Errorf("11.3: what stands on the store behind %d writes of an Open", limit)
		}
		b.Limit(100)
		same(t, "V1: opened once more", tells(open(t, b)), tells(m))
		if !bytes.Equal(b.Crash(nil), m.image) {
			t.Errorf("11.3: what is safe behind %d writes of an Open, and another one", limit)
		}
	}
}

// A store that is broken is not written to, wherever that is, and whatever else would be written; it is told ahead of writes that are refused.
func TestV1BrokenIsTold(t *testing.T) {
	good, _, _ := several()
	for _, n := range []int{0, 4, 40, 2*40 + 1, 5 * 40, 7*40 + 3} {
		image := bytes.Clone(good)
		copy(image[n*size:], []byte{1, 84})
		notOpened(t, fmt.Sprintf("sector %d is spoilt", n), image, api.ErrSaveBroken)
		b := of(t, image)
		b.Limit(0)
		if s, e := saves.Open(b); s != nil || e != api.ErrSaveBroken {
			t.Errorf("V1: Open of a broken store behind a limit = %v, %d", s != nil, e)
		}
	}
}

// Where nothing is written nothing is made safe either: a write that was pending still is.
func TestV1NoSync(t *testing.T) {
	b := made(t, 71)
	if e := b.Write(70, text(size, 1)); e != api.OK {
		t.Fatal(e)
	}
	open(t, b)
	if b.Pending() != 1 {
		t.Errorf("11.3: to open a store with nothing outdated: %d pending", b.Pending())
	}
}

// Stores of any bytes, of which the heads begin like heads: each is opened or broken, and then as it was.
func TestV1AnyBytes(t *testing.T) {
	draw := rand.New(rand.NewSource(12))
	opened := 0
	for range 1000 {
		image, _, _ := several()
		for range 1 + draw.Intn(3) {
			tenant, n := []int{1, 2, 5, 8}[draw.Intn(4)], draw.Intn(12)
			at := []int{0, 1, 2, 3, 4, 5, 19, 20, 23, 24, 25, 27, 28, 32, 33, 34, 509, 510, 511}[draw.Intn(19)]
			sectorOf(image, tenant, n)[at] = byte(draw.Intn(12))
		}
		b := of(t, image)
		s, e := saves.Open(b)
		switch {
		case e == api.OK && s != nil:
			opened++
			was := tells(s)
			same(t, "V1: opened twice", was, tells(open(t, of(t, b.Crash(nil)))))
			put(t, s, 3, "more", text(1000, 5))
			same(t, "V4: the others", was[:3], tells(s)[:3])
		case e != api.ErrSaveBroken || s != nil || !bytes.Equal(b.Image(), image):
			t.Fatalf("V1: Open = %v, %d", s != nil, e)
		}
	}
	if opened < 100 || opened > 900 {
		t.Errorf("of 1000 stores %d were opened", opened)
	}
}
