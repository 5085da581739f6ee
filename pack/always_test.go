package pack_test

import (
	"fmt"
	"math/rand"
	"slices"
	"sync"
	"testing"

	"arcade/api"
	"arcade/pack"
)

// Any bytes at all are answered, as the model does.
func TestK2AnyBytes(t *testing.T) {
	draw := rand.New(rand.NewSource(71))
	for range 4000 {
		b := lot(draw, draw.Intn(80), []int{3, 20, 256}[draw.Intn(3)])
		if draw.Intn(2) == 0 {
			b = append([]byte{80, 1, byte(draw.Intn(3)), 0, byte(draw.Intn(20)), 0, byte(draw.Intn(60))}, b...)
		}
		want, e := modelUnpack(b)
		if e == api.OK {
			unpacked(t, "any bytes", b, want.data)
			continue
		}
		refused(t, "any bytes", b, e)
		applies(t, b, b)
	}
}

// apart holds that no two of some lists share memory, their spare room too.
func apart(t *testing.T, lists ...[]byte) {
	t.Helper()
	copies := make([][]byte, len(lists))
	for i, list := range lists {
		copies[i] = slices.Clone(list)
	}
	for i, list := range lists {
		scratch(list)
		for k := i + 1; k < len(lists); k++ {
			same(t, fmt.Sprintf("R3: the list %d, when %d is written over", k, i), lists[k], copies[k])
		}
	}
}

// Lists that come out are new memory: of two calls alike, and of calls one behind the other.
func TestK1NewMemory(t *testing.T) {
	data := text(rand.New(rand.NewSource(72)), 9000)
	fresh := append([]byte("x"), data...)
	a, _ := pack.Pack(data)
	b, _ := pack.Pack(data)
	c, _ := pack.Unpack(a)
	d, _ := pack.Unpack(a)
	e, _ := pack.Delta(data, fresh)
	f, _ := pack.Delta(data, fresh)
	g, _ := pack.Apply(data, e)
	h, _ := pack.Apply(data, e)
	apart(t, a, b, c, d, e, f, g, h, data, fresh)
	x, _ := pack.Pack(nil)
	y, _ := pack.Pack(nil)
	apart(t, x, y)
}

// Of a packer and an unpacker, too; what they have kept is not in these lists.
func TestK3NewMemory(t *testing.T) {
	data := text(rand.New(rand.NewSource(73)), 20000)
	want := modelPack(data)
	p, u := pack.NewPacker(), pack.NewUnpacker()
	var given, come [][]byte
	for piece := range slices.Chunk(data, 5000) {
		b, _ := p.Write(piece)
		given = append(given, b)
	}
	b, _ := p.Close()
	given = append(given, b)
	same(t, "K3: all that was given", slices.Concat(given...), want)
	for piece := range slices.Chunk(want, 1000) {
		b, _ := u.Write(piece)
		come = append(come, b)
	}
	same(t, "K4: all that came", slices.Concat(come...), data)
	apart(t, append(slices.Concat(given, come), data, want)...)
}

// answers are all that calls tell of bytes by lot, as one list.
func answers(seed int64) []string {
	draw := rand.New(rand.NewSource(seed))
	var list []string
	p, u := pack.NewPacker(), pack.NewUnpacker()
	for range 12 {
		data := rows(draw, 1+draw.Intn(12000))
		b, e := pack.Pack(data)
		c, f := pack.Unpack(spoilt(draw, b))
		d, g := pack.Delta(data, b)
		x, h := p.Write(data)
		y, i := u.Write(x)
		list = append(list, fmt.Sprint(b, e, c, f, d, g, x, h, y, i, u.Done(), pack.Sum(data)))
	}
	return list
}

// What a call answers hangs on nothing that goes on beside it, and not on how its goroutines run.
func TestK1Apart(t *testing.T) {
	var want, got [8][]string
	for i := range want {
		want[i] = answers(int64(i))
	}
	var all sync.WaitGroup
	for i := range got {
		all.Go(func() { got[i] = answers(int64(i)) })
	}
	all.Wait()
	for i := range want {
		if !slices.Equal(want[i], got[i]) {
			t.Errorf("R4: what the %d-th tells hangs on others", i)
		}
	}
}

// The same bytes are packed alike, again and again.
func TestK1Again(t *testing.T) {
	data := rows(rand.New(rand.NewSource(74)), 100000)
	want, _ := pack.Pack(data)
	for range 50 {
		b, _ := pack.Pack(data)
		same(t, "R4: Pack again", b, want)
	}
}
