package saves_test

import (
	"bytes"
	"fmt"
	"math/rand"
	"sync"
	"testing"

	"arcade/api"
	"arcade/block"
	"arcade/saves"
)

// lot draws Puts and Deletes of a few names.
type lot struct {
	*rand.Rand
	most int // bytes of a save, but for seldom ones
}

func lotOf(seed int64, most int) *lot {
	return &lot{Rand: rand.New(rand.NewSource(seed)), most: most}
}

func (l *lot) name() string {
	return []string{"a", "b", "c-9", "_", "sixteen-letters_"}[l.Intn(5)]
}

// data is bytes of any size, and often of one at an edge.
func (l *lot) data() []byte {
	n := l.Intn(l.most + 1)
	switch l.Intn(6) {
	case 0:
		n = []int{0, 0, 1, 509, 510, 511, 1020}[l.Intn(7)]
	case 1:
		n = 510 * l.Intn(l.most/510+2)
	case 2:
		n = 2 * l.most
	}
	data := make([]byte, n)
	l.Read(data)
	if l.Intn(4) == 0 {
		clear(data)
	}
	return data
}

func (l *lot) deed(tenant int) deed {
	d := deed{tenant: tenant, name: l.name(), drop: l.Intn(4) == 0}
	if !d.drop {
		d.data = l.data()
	}
	return d
}

// Calls drawn by lot, which answer as the model's do, and leave the same bytes on the store; now and then opened anew.
func TestV4Model(t *testing.T) {
	done := map[string]int{}
	for seed := range int64(40) {
		l := lotOf(seed, 1500)
		b := made(t, []int{7, 15, 64, 72, 79, 136, 196, 400}[seed%8])
		s, m := open(t, b), modelOf(b.Image())
		for step := range 120 {
			d := l.deed(1 + l.Intn(8))
			if step%20 > 10 {
				d.tenant = 3 // so that an area is filled
			}
			_, want := d.steps(m)
			if e := d.do(s); e != want {
				t.Fatalf("V4: seed %d, step %d: %v = %d, want %d", seed, step, d, e, want)
			}
			done[fmt.Sprint(d.drop, want)]++
			if !bytes.Equal(b.Image(), m.image) || b.Pending() != 0 {
				t.Fatalf("V4: seed %d, step %d: other bytes behind %v", seed, step, d)
			}
			same(t, d.String(), tellsOf(s, d.tenant), tellsOf(m, d.tenant))
			if step%30 == 0 {
				b = of(t, b.Crash(nil))
				s = open(t, b)
				same(t, "V4: opened anew", tells(s), tells(m))
			}
		}
		same(t, "V4: in the end", tells(s), tells(m))
	}
	for _, kind := range []string{"false 0", "false 112", "true 0", "true 111"} {
		if done[kind] < 100 {
			t.Errorf("the lot has drawn %s only %d times", kind, done[kind])
		}
	}
}

// run does deeds of one tenant, and tells all that this tenant is told; between them come others.
func run(s *saves.Saves, tenant int, seed int64, between func()) []string {
	var lines []string
	l := lotOf(seed, 1500)
	for range 60 {
		between()
		d := l.deed(tenant)
		lines = append(lines, fmt.Sprint(d, d.do(s)))
		lines = append(lines, tellsOf(s, tenant)...)
	}
	return lines
}

// What a tenant puts, finds and lacks is the same alone, and beside others that do whatever they like with theirs; its area has the same bytes, but for the tenant's number.
func TestV4Alone(t *testing.T) {
	for seed := range int64(6) {
		for _, tenant := range []int{1, 4, 8} {
			alone, s := fresh(t, 196)
			want := run(s, tenant, seed, func() {})
			beside, s := fresh(t, 196)
			others := lotOf(100+seed, 2500)
			got := run(s, tenant, seed, func() {
				for range 4 {
					other := 1 + others.Intn(8)
					if other != tenant {
						others.deed(other).do(s)
					}
					s.Put(-other, "a", nil)
					s.Put(other, "A", nil)
				}
			})
			same(t, fmt.Sprintf("V4: tenant %d beside others", tenant), want, got)
			from := (tenant - 1) * 24 * size
			if !bytes.Equal(alone.Image()[from:from+24*size], beside.Image()[from:from+24*size]) {
				t.Errorf("V4: the area of tenant %d hangs on others", tenant)
			}
		}
	}
}

// Saves on stores of their own that are used at the same time answer what each answers alone.
func TestV4Apart(t *testing.T) {
	var want, got [8][]string
	var stores [8]*saves.Saves
	for i := range stores {
		_, s := fresh(t, 196)
		want[i] = run(s, 1+i, int64(i), func() {})
		_, stores[i] = fresh(t, 196)
	}
	var all sync.WaitGroup
	for i, s := range stores {
		all.Go(func() { got[i] = run(s, 1+i, int64(i), func() {}) })
	}
	all.Wait()
	for i := range stores {
		same(t, "R4: saves apart", want[i], got[i])
	}
}

// A write of anybody that is refused makes the saves dead for all of them; those on another store live.
func TestV4DeadForAll(t *testing.T) {
	b, s := fresh(t, 196)
	_, other := fresh(t, 196)
	for tenant := 1; tenant <= 8; tenant++ {
		put(t, s, tenant, "a", text(9, tenant))
		put(t, other, tenant, "a", text(9, tenant))
	}
	b.Limit(0)
	if e := s.Put(3, "a", nil); e != api.ErrSaveDead {
		t.Errorf("V2: Put behind a limit of 0 = %d", e)
	}
	dead(t, b, s)
	for tenant := 1; tenant <= 8; tenant++ {
		get(t, other, tenant, "a", text(9, tenant))
	}
}

// Whoever writes to a store that is not his any more gets some answer: no call panics, and each ends.
func TestV4SpoiltBehindOpen(t *testing.T) {
	l := lotOf(44, 1500)
	good, _, _ := ahead(t, 196, 15)
	image := good.Image()
	for range 150 {
		b := of(t, image)
		s := open(t, b)
		spoil(l, b)
		for tenant := range 10 {
			for _, name := range []string{"a", "b", "c", "sixteen-letters_"} {
				s.Get(tenant, name)
				s.Delete(tenant, name)
				s.Put(tenant, name, text(1000, 1))
			}
			s.List(tenant)
			s.Used(tenant)
		}
	}
}

// spoil writes over a few bytes of the first and of the third area.
func spoil(l *lot, b *block.Store) {
	for range 1 + l.Intn(4) {
		n := 48*l.Intn(2) + l.Intn(12)
		data, _ := b.Read(n)
		at := []int{0, 1, 3, 4, 20, 24, 25, 26, 28, 32, 33, 510, 511}[l.Intn(13)]
		data[at] = byte(l.Intn(30))
		b.Write(n, data)
	}
}
