package arena_test

import (
	"bytes"
	"math/rand"
	"slices"
	"strconv"
	"sync"
	"testing"

	"arcade/api"
	"arcade/arena"
)

// pool is what both a pool and its model do.
type pool interface {
	Open(quota int) (int, api.Errno)
	Take(id, size, pick int) (api.Lease, api.Errno)
	Give(id, buffer int) api.Errno
	Close(id int) (int, api.Errno)
	Load(id, buffer, at, n int) ([]byte, api.Errno)
	Store(id, buffer, at int, b []byte) api.Errno
	Used(id int) (int, api.Errno)
	Free(class int) []int
	Leases(id int) []api.Lease
}

// deed is a call, with numbers of which each kind takes some.
type deed struct {
	kind        string
	id, x, y, z int
	bytes       []byte
}

// lot draws calls: most of them may be done, some are wrong in each of their numbers.
type lot struct {
	*rand.Rand
	config  api.PoolConfig
	buffers int
}

func lotOf(seed int64, c api.PoolConfig) *lot {
	l := &lot{Rand: rand.New(rand.NewSource(seed)), config: c}
	for _, x := range c.Classes {
		l.buffers += x.Many
	}
	return l
}

// number is one of 0 to most, seldom another one.
func (l *lot) number(most int) int {
	switch l.Intn(20) {
	case 0:
		return far[l.Intn(len(far))]
	case 1:
		return most + 1
	}
	return l.Intn(most + 1)
}

// buffer is one of the arena's, if it has some; seldom another one.
func (l *lot) buffer(p pool, id int) int {
	if own := p.Leases(id); len(own) > 0 && l.Intn(10) > 0 {
		return own[l.Intn(len(own))].Buffer
	}
	return l.number(l.buffers)
}

func (l *lot) deed(p pool) deed {
	largest := l.config.Classes[len(l.config.Classes)-1].Size
	d := deed{id: l.number(l.config.Arenas - 1)}
	switch n := l.Intn(100); {
	case n < 8:
		d.kind, d.x = "Open", l.number(5*largest)
	case n < 45:
		d.kind, d.x, d.y = "Take", l.number(largest), int(l.Uint64())
	case n < 60:
		d.kind, d.x = "Give", l.buffer(p, d.id)
	case n < 63:
		d.kind = "Close"
	case n < 85:
		d.kind, d.x, d.y = "Store", l.buffer(p, d.id), l.number(largest/2)
		d.bytes = make([]byte, l.Intn(largest/2+2))
		l.Read(d.bytes)
	default:
		d.kind, d.x, d.y, d.z = "Load", l.buffer(p, d.id), l.number(largest/2), l.number(largest/2)
	}
	return d
}

// does does a call, and tells all that it answered.
func does(p pool, d deed) (number int, lease api.Lease, list []byte, e api.Errno) {
	switch d.kind {
	case "Open":
		number, e = p.Open(d.x)
	case "Take":
		lease, e = p.Take(d.id, d.x, d.y)
	case "Give":
		e = p.Give(d.id, d.x)
	case "Close":
		number, e = p.Close(d.id)
	case "Store":
		e = p.Store(d.id, d.x, d.y, d.bytes)
	case "Load":
		list, e = p.Load(d.id, d.x, d.y, d.z)
	}
	return number, lease, list, e
}

// parted holds that each buffer is free, or one arena's, just once; and that no quota is exceeded.
func parted(t *testing.T, p pool, c api.PoolConfig, quotas map[int]int) {
	t.Helper()
	seen := map[int]int{}
	all, sum, known := 0, 0, 0
	for class, x := range c.Classes {
		for _, number := range p.Free(class) {
			seen[number]++
			sum++
			if number < all || number >= all+x.Many {
				t.Errorf("A7: buffer %d is none of class %d", number, class)
			}
		}
		all += x.Many
	}
	for id := range c.Arenas {
		known = 0
		for _, l := range p.Leases(id) {
			seen[l.Buffer]++
			sum++
			known += c.Classes[l.Class].Size
		}
		n, e := p.Used(id)
		quota, there := quotas[id]
		if there != (e == api.OK) || n != known || n > quota {
			t.Errorf("A7: Used(%d) = %d, %d, its buffers have %d, its quota is %d", id, n, e, known, quota)
		}
	}
	if len(seen) != all || sum != all {
		t.Errorf("A7: of %d buffers %d are there, %d times", all, len(seen), sum)
	}
}

// configs are some that are drawn upon.
func configs() []api.PoolConfig {
	return []api.PoolConfig{
		config(2, 4, 3, 16, 2),
		config(1, 1, 1),
		config(5, 1, 4, 2, 0, 3, 7, 8, 3, 30, 5),
		config(64, 8, 60, 24, 40),
		config(3, 1, 2, 2, 2, 3, 2, 4, 2, 5, 2, 6, 2, 7, 2, 8, 2),
		config(4, 16, 0, 32, 0),
	}
}

// TestA7Model: calls drawn by lot, each of which a pool answers as its model does; what always holds does so behind each.
func TestA7Model(t *testing.T) {
	done := map[string]int{}
	for i, c := range configs() {
		for seed := range int64(6) {
			p, m, l := made(t, c.Arenas, pairsOf(c)...), modelOf(c), lotOf(90+seed, c)
			for step := range 1500 {
				d := l.deed(m)
				n, a, b, e := does(p, d)
				wantN, wantA, wantB, wantE := does(m, d)
				if n != wantN || a != wantA || !bytes.Equal(b, wantB) || e != wantE {
					t.Fatalf("A7: pool %d, step %d: %s(%d, %d, %d, %d) with %d bytes = %d, %+v, %v, %d, want %d, %+v, %v, %d", i, step, d.kind, d.id, d.x, d.y, d.z, len(d.bytes), n, a, b, e, wantN, wantA, wantB, wantE)
				}
				done[d.kind+" "+strconv.Itoa(int(e))]++
				parted(t, p, c, m.quotas)
				if step%50 == 0 {
					same(t, "A7: a pool and its model", tells(p), tells(m))
				}
			}
		}
	}
	for _, kind := range []string{"Open 0", "Open 92", "Open 93", "Take 0", "Take 94", "Take 95", "Take 92", "Take 96", "Give 0", "Give 94", "Give 97", "Close 0", "Close 94", "Load 0", "Load 94", "Load 97", "Load 98", "Store 0", "Store 94", "Store 97", "Store 98"} {
		if done[kind] < 10 {
			t.Errorf("the lot has drawn %s only %d times", kind, done[kind])
		}
	}
}

func pairsOf(c api.PoolConfig) []int {
	var pairs []int
	for _, x := range c.Classes {
		pairs = append(pairs, x.Size, x.Many)
	}
	return pairs
}

// alone is a run of one arena: what it stores, and what it loads in all; picks by which buffers are taken are drawn from elsewhere.
func alone(p pool, id int, seed int64, picks *rand.Rand, between func()) []byte {
	r := rand.New(rand.NewSource(seed))
	var loaded []byte
	var own []api.Lease // by their order, not by their numbers: those hang on the others
	for range 400 {
		between()
		switch k := r.Intn(10); {
		case k < 3 && len(own) < 6:
			l, e := p.Take(id, r.Intn(16)+1, int(picks.Uint64()))
			if e == api.OK {
				own = append(own, l)
			}
			loaded = append(loaded, byte(e))
		case k < 4 && len(own) > 0:
			at := r.Intn(len(own))
			p.Give(id, own[at].Buffer)
			own = slices.Delete(own, at, at+1)
		case k < 7 && len(own) > 0:
			l := own[r.Intn(len(own))]
			at := r.Intn(l.Size)
			b := make([]byte, r.Intn(l.Size-at)+1)
			r.Read(b)
			p.Store(id, l.Buffer, at, b)
		case len(own) > 0:
			l := own[r.Intn(len(own))]
			b, e := p.Load(id, l.Buffer, 0, l.Size)
			loaded = append(append(loaded, byte(e), byte(l.Size)), b...)
		}
	}
	return loaded
}

// TestA7Alone: what an arena loads is the same alone, and beside others that do whatever they like with theirs, whichever buffers it gets.
func TestA7Alone(t *testing.T) {
	c := config(4, 4, 3*50+6, 16, 3*12+6) // whatever the others have, there is enough for it
	for seed := range int64(10) {
		p := made(t, c.Arenas, pairsOf(c)...)
		open(t, p, 200, 0)
		want := alone(p, 0, seed, rand.New(rand.NewSource(1)), func() {})
		if len(want) < 500 {
			t.Fatalf("a run of %d bytes", len(want))
		}
		for others := range int64(4) {
			p := made(t, c.Arenas, pairsOf(c)...)
			open(t, p, 200, 0)
			wild := lotOf(1000+others, c)
			got := alone(p, 0, seed, wild.Rand, func() { disturb(p, wild) })
			if !bytes.Equal(got, want) {
				t.Errorf("A7: run %d loads other bytes beside others", seed)
			}
		}
	}
}

// disturb does some calls of the arenas 1 to 3, of which none has more than 200 bytes, and wrong ones that would be about buffers of arena 0.
func disturb(p pool, l *lot) {
	for range 5 {
		d := l.deed(p)
		d.id = 1 + (d.id&0xff)%3
		if d.kind == "Open" {
			d.x = 200
		}
		does(p, d)
		if own := p.Leases(0); len(own) > 0 {
			number := own[l.Intn(len(own))].Buffer
			p.Store(d.id, number, 0, []byte{255, 254, 253})
			p.Give(d.id, number)
		}
	}
}

// TestA7Pools: pools that are used at the same time answer what each answers alone.
func TestA7Pools(t *testing.T) {
	c := config(4, 4, 30, 16, 30)
	var want, got [8][]byte
	var pools [8]*arena.Pool
	for i := range pools {
		p := made(t, c.Arenas, pairsOf(c)...)
		open(t, p, 200, 0)
		want[i] = alone(p, 0, int64(i), rand.New(rand.NewSource(5)), func() {})
		pools[i] = made(t, c.Arenas, pairsOf(c)...)
		open(t, pools[i], 200, 0)
	}
	var all sync.WaitGroup
	for i, p := range pools {
		all.Go(func() { got[i] = alone(p, 0, int64(i), rand.New(rand.NewSource(5)), func() {}) })
	}
	all.Wait()
	for i := range pools {
		if !bytes.Equal(got[i], want[i]) {
			t.Errorf("A7: pool %d beside others loads other bytes", i)
		}
	}
}
