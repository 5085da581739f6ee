package arena_test

import (
	"bytes"
	"math"
	"slices"
	"testing"

	"arcade/api"
	"arcade/arena"
)

// far are numbers that are beyond all bounds.
var far = []int{math.MinInt, math.MinInt + 1, math.MinInt32, -65536, -64, -2, -1, 1 << 24, 1 << 32, 1<<40 + 1, math.MaxInt32, math.MaxInt - 1, math.MaxInt}

// config has so many arenas, and classes by their sizes and numbers of buffers.
func config(arenas int, pairs ...int) api.PoolConfig {
	c := api.PoolConfig{Arenas: arenas}
	for i := 0; i < len(pairs); i += 2 {
		c.Classes = append(c.Classes, api.Class{Size: pairs[i], Many: pairs[i+1]})
	}
	return c
}

// made is a pool of such a configuration.
func made(t *testing.T, arenas int, pairs ...int) *arena.Pool {
	t.Helper()
	p, e := arena.New(config(arenas, pairs...))
	if p == nil || e != api.OK {
		t.Fatalf("A1: New(%d, %v) = %v, %d", arenas, pairs, p != nil, e)
	}
	return p
}

// small is the document's pool, with one arena of so many bytes for each quota.
func small(t *testing.T, quotas ...int) *arena.Pool {
	t.Helper()
	p := made(t, max(2, len(quotas)), 4, 3, 16, 2)
	for id, quota := range quotas {
		open(t, p, quota, id)
	}
	return p
}

func open(t *testing.T, p *arena.Pool, quota, want int) {
	t.Helper()
	if id, e := p.Open(quota); id != want || e != api.OK {
		t.Fatalf("A2: Open(%d) = %d, %d, want %d", quota, id, e, want)
	}
}

func notOpened(t *testing.T, p *arena.Pool, quota int, want api.Errno) {
	t.Helper()
	if id, e := p.Open(quota); id != 0 || e != want {
		t.Errorf("A2: Open(%d) = %d, %d, want 0, %d", quota, id, e, want)
	}
}

func lease(buffer, class, size int) api.Lease {
	return api.Lease{Buffer: buffer, Class: class, Size: size}
}

// take is one that is not refused; its buffer is told.
func take(t *testing.T, p *arena.Pool, id, size, pick int, want api.Lease) int {
	t.Helper()
	l, e := p.Take(id, size, pick)
	if l != want || e != api.OK {
		t.Fatalf("A3: Take(%d, %d, %d) = %+v, %d, want %+v", id, size, pick, l, e, want)
	}
	return l.Buffer
}

func notTaken(t *testing.T, p *arena.Pool, id, size, pick int, want api.Errno) {
	t.Helper()
	if l, e := p.Take(id, size, pick); l != (api.Lease{}) || e != want {
		t.Errorf("A3: Take(%d, %d, %d) = %+v, %d, want %d", id, size, pick, l, e, want)
	}
}

func give(t *testing.T, p *arena.Pool, id, buffer int, want api.Errno) {
	t.Helper()
	if e := p.Give(id, buffer); e != want {
		t.Errorf("A4: Give(%d, %d) = %d, want %d", id, buffer, e, want)
	}
}

func closes(t *testing.T, p *arena.Pool, id, want int, no api.Errno) {
	t.Helper()
	if n, e := p.Close(id); n != want || e != no {
		t.Errorf("A4: Close(%d) = %d, %d, want %d, %d", id, n, e, want, no)
	}
}

func load(t *testing.T, p *arena.Pool, id, buffer, at int, want ...byte) {
	t.Helper()
	if b, e := p.Load(id, buffer, at, len(want)); !bytes.Equal(b, want) || e != api.OK {
		t.Errorf("A5: Load(%d, %d, %d, %d) = %v, %d, want %v", id, buffer, at, len(want), b, e, want)
	}
}

func notLoaded(t *testing.T, p *arena.Pool, id, buffer, at, n int, want api.Errno) {
	t.Helper()
	if b, e := p.Load(id, buffer, at, n); len(b) != 0 || e != want {
		t.Errorf("A5: Load(%d, %d, %d, %d) = %v, %d, want %d", id, buffer, at, n, b, e, want)
	}
}

func store(t *testing.T, p *arena.Pool, id, buffer, at int, b []byte, want api.Errno) {
	t.Helper()
	if e := p.Store(id, buffer, at, b); e != want {
		t.Errorf("A5: Store(%d, %d, %d, %d bytes) = %d, want %d", id, buffer, at, len(b), e, want)
	}
}

func used(t *testing.T, p *arena.Pool, id, want int, no api.Errno) {
	t.Helper()
	if n, e := p.Used(id); n != want || e != no {
		t.Errorf("A6: Used(%d) = %d, %d, want %d, %d", id, n, e, want, no)
	}
}

func free(t *testing.T, p *arena.Pool, class int, want ...int) {
	t.Helper()
	if l := p.Free(class); !slices.Equal(l, want) {
		t.Errorf("A6: Free(%d) = %v, want %v", class, l, want)
	}
}

func leases(t *testing.T, p *arena.Pool, id int, want ...api.Lease) {
	t.Helper()
	if l := p.Leases(id); !slices.Equal(l, want) {
		t.Errorf("A6: Leases(%d) = %+v, want %+v", id, l, want)
	}
}

// run is the numbers from one on up to another one, that one too.
func run(from, to int) []int {
	var list []int
	for i := from; i <= to; i++ {
		list = append(list, i)
	}
	return list
}

// filled is n bytes that are all x.
func filled(n int, x byte) []byte {
	return bytes.Repeat([]byte{x}, n)
}

// roomy is a list with spare room, all of it filled.
func roomy[T any](list []T, filling T) []T {
	return append(slices.Clone(list), slices.Repeat([]T{filling}, 20)...)[:len(list)]
}

// spared tells whether a roomy list is as it was, its room too.
func spared[T comparable](list, was []T, filling T) bool {
	return slices.Equal(list, was) && slices.Equal(list[len(list):len(list)+20], slices.Repeat([]T{filling}, 20))
}

// scratch writes over a list and its spare room.
func scratch[T any](list []T, x T) {
	whole := list[:cap(list)]
	for i := range whole {
		whole[i] = x
	}
}

// told is all that a pool tells by calls that change nothing, of some arenas and classes more than it has.
type told struct {
	free   [10][]int
	leases [66][]api.Lease
	used   [66]int
	none   [66]api.Errno
	bytes  [66][][]byte
}

func tells(p pool) *told {
	all := &told{}
	for i := range all.free {
		all.free[i] = p.Free(i - 1)
	}
	for i := range all.leases {
		id := i - 1
		all.leases[i] = p.Leases(id)
		all.used[i], all.none[i] = p.Used(id)
		for _, l := range all.leases[i] {
			b, e := p.Load(id, l.Buffer, 0, l.Size)
			if e != api.OK {
				b = []byte("refused")
			}
			all.bytes[i] = append(all.bytes[i], b)
		}
	}
	return all
}

// same holds against each other what two pools tell, or one pool at two times.
func same(t *testing.T, which string, a, b *told) {
	t.Helper()
	for i := range a.free {
		if !slices.Equal(a.free[i], b.free[i]) {
			t.Errorf("%s: Free(%d) is %v, and %v", which, i-1, a.free[i], b.free[i])
		}
	}
	for i := range a.leases {
		if a.used[i] != b.used[i] || a.none[i] != b.none[i] || !slices.Equal(a.leases[i], b.leases[i]) {
			t.Errorf("%s: arena %d has %v (%d, %d), and %v (%d, %d)", which, i-1, a.leases[i], a.used[i], a.none[i], b.leases[i], b.used[i], b.none[i])
		}
		if !slices.EqualFunc(a.bytes[i], b.bytes[i], bytes.Equal) {
			t.Errorf("%s: the bytes of arena %d are others", which, i-1)
		}
	}
}
