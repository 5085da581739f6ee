package host_test

import (
	"bytes"
	"slices"
	"testing"

	"arcade/api"
	"arcade/block"
	"arcade/host"
	"arcade/saves"
)

// notMade is a host that is refused.
func notMade(t *testing.T, which string, c api.HostConfig, store *block.Store, want api.Errno) {
	t.Helper()
	if h, e := host.New(c, store); h != nil || e != want {
		t.Errorf("H1: New, %s = %v, %d, want %d", which, h != nil, e, want)
	}
}

// TestH1Fresh: a host without connections.
func TestH1Fresh(t *testing.T) {
	r := made(t, plenty, 800)
	r.stands(0, 0, 0, 0)
	r.noTurn()
	if l, e := r.Replies(0); len(l) != 0 || e != api.ErrHostConn {
		t.Errorf("H1: Replies(0) of a new host = %v, %d", l, e)
	}
	r.connect(0)
	r.told(0, "")
}

// TestH1Bounds: what may be just so, and just not any more.
func TestH1Bounds(t *testing.T) {
	for _, x := range []struct {
		which string
		field func(c *api.HostConfig) *int
		may   []int
		not   []int
	}{
		{"Sessions", func(c *api.HostConfig) *int { return &c.Sessions }, []int{1, 2, 63, 64}, []int{0, 65}},
		{"Workers", func(c *api.HostConfig) *int { return &c.Workers }, []int{1, 2, 7, 8}, []int{0, 9}},
		{"Bytes", func(c *api.HostConfig) *int { return &c.Bytes }, []int{0, 1, 1 << 32, 1<<63 - 1}, []int{-1}},
		{"Life", func(c *api.HostConfig) *int { return &c.Life }, []int{1, 2, 999999999999, 1000000000000}, []int{0, 1000000000001}},
	} {
		for _, n := range x.may {
			made(t, with(plenty, func(c *api.HostConfig) { *x.field(c) = n }), 8)
		}
		for _, n := range append(x.not, far...) {
			if n >= 0 && (x.which == "Bytes" || x.which == "Life" && n > 0 && n <= api.MaxLife) {
				continue
			}
			store, _ := block.New(8)
			notMade(t, x.which, with(plenty, func(c *api.HostConfig) { *x.field(c) = n }), store, api.ErrArg)
		}
	}
	notMade(t, "nothing at all", api.HostConfig{}, nil, api.ErrArg)
}

// TestH1Pool: the pool's errors, of which its arenas are one; there may be more of them than sessions, or fewer.
func TestH1Pool(t *testing.T) {
	for _, n := range append(far, 0, 65) {
		store, _ := block.New(8)
		notMade(t, "arenas", with(plenty, func(c *api.HostConfig) { c.Pool.Arenas = n }), store, api.ErrArenaPool)
	}
	for _, l := range [][]api.Class{nil, {{Size: 0, Many: 1}}, {{Size: 8, Many: -1}}, {{Size: 8, Many: 513}}, {{Size: 65537, Many: 1}}, {{Size: 8, Many: 1}, {Size: 8, Many: 1}}, {{Size: 65536, Many: 257}}, slices.Repeat([]api.Class{{Size: 1}}, 9)} {
		store, _ := block.New(8)
		notMade(t, "classes", with(plenty, func(c *api.HostConfig) { c.Pool.Classes = l }), store, api.ErrArenaPool)
	}
	made(t, with(plenty, func(c *api.HostConfig) { c.Pool.Arenas = 1 }), 8)
	made(t, with(plenty, func(c *api.HostConfig) { c.Sessions = 1 }), 8)
	made(t, with(plenty, func(c *api.HostConfig) { c.Pool.Classes = []api.Class{{Size: 1, Many: 0}} }), 8)
}

// unsettled is a store on which one save has two versions: whoever opens its saves writes.
func unsettled(t *testing.T) *block.Store {
	t.Helper()
	store, _ := block.New(196)
	s, e := saves.Open(store)
	if e != api.OK || s.Put(1, "a", []byte("first")) != api.OK {
		t.Fatal("a save is not put")
	}
	store.Limit(3) // the old one is not withdrawn
	if e := s.Put(1, "a", []byte("second")); e != api.ErrSaveDead {
		t.Fatalf("a save is not put by half: %d", e)
	}
	left, _ := block.Of(store.Crash(nil))
	return left
}

// TestH1Store: the errors of the saves, the last ones to be told.
func TestH1Store(t *testing.T) {
	wrong := make([]byte, 196*512)
	wrong[0] = 1
	store, _ := block.Of(wrong)
	noPool := with(plenty, func(c *api.HostConfig) { c.Pool.Arenas = 0 })
	noLife := with(noPool, func(c *api.HostConfig) { c.Life = 0 })
	notMade(t, "a broken store", plenty, store, api.ErrSaveBroken)
	notMade(t, "a broken store, no pool", noPool, store, api.ErrArenaPool)
	notMade(t, "a broken store, no pool, no life", noLife, store, api.ErrArg)
	notMade(t, "no store, no pool, no life", noLife, nil, api.ErrArg)
	notMade(t, "no store", plenty, nil, api.ErrArg)
	notMade(t, "no store, no pool", noPool, nil, api.ErrArg)

	store = unsettled(t)
	was := store.Image()
	notMade(t, "no pool", noPool, store, api.ErrArenaPool)
	notMade(t, "no life", noLife, store, api.ErrArg)
	if !bytes.Equal(store.Image(), was) || store.Pending() != 0 {
		t.Error("H1: New, refused ahead of the saves, writes")
	}
	store.Limit(0)
	notMade(t, "a store that refuses a write", plenty, store, api.ErrSaveDead)
	store = unsettled(t)
	on(t, plenty, store)
	if bytes.Equal(store.Image(), was) || store.Pending() != 0 {
		t.Error("H1: New does not open the saves")
	}
}

// TestH1Kept: the list of classes is the caller's, before and behind New.
func TestH1Kept(t *testing.T) {
	classes := roomy(tight.Pool.Classes, api.Class{Size: 7, Many: 7})
	c := tight
	c.Pool.Classes = classes
	r := made(t, c, 800)
	if !spared(classes, tight.Pool.Classes, api.Class{Size: 7, Many: 7}) {
		t.Error("H1: New writes into the list of classes")
	}
	scratch(classes, api.Class{Size: 1, Many: 1})
	r.connects(3)
	for i := range 3 {
		r.sends(i, opens(1, "a", counts()))
	}
	r.told(0, "opened 0")
	r.told(1, "opened 0")
	r.told(2, "busy")
	r.stands(2, 3, 2*49152, 0)
}

// TestH1Crashed: each call on a host that has crashed, whatever it is given.
func TestH1Crashed(t *testing.T) {
	r := made(t, tight, 800)
	r.connects(2)
	r.sends(0, opens(1, "a", counts()), runs(5))
	r.turns(1, nil, 0, 1)
	if b, e := r.Crash(nil); len(b) != 800*512 || e != api.OK {
		t.Fatalf("H9: Crash = %d bytes, %d", len(b), e)
	}
	for range 2 {
		if n, e := r.Connect(); n != 0 || e != api.ErrHostDead {
			t.Errorf("H1: Connect, crashed = %d, %d", n, e)
		}
		for _, n := range append(far, 0, 1, 2) {
			if e := r.Feed(n, encoded(t, look), []int{1}); e != api.ErrHostDead {
				t.Errorf("H1: Feed(%d), crashed = %d", n, e)
			}
			if e := r.Hang(n); e != api.ErrHostDead {
				t.Errorf("H1: Hang(%d), crashed = %d", n, e)
			}
			if l, e := r.Replies(n); len(l) != 0 || e != api.ErrHostDead {
				t.Errorf("H1: Replies(%d), crashed = %v, %d", n, l, e)
			}
			if l, e := r.Turn(n, []int{n}, []int{n}); len(l) != 0 || e != api.ErrHostDead {
				t.Errorf("H1: Turn(%d), crashed = %v, %d", n, l, e)
			}
			if l, e := r.Crash([]int{n}); len(l) != 0 || e != api.ErrHostDead {
				t.Errorf("H1: Crash, crashed = %d bytes, %d", len(l), e)
			}
		}
		r.stands(0, 0, 0, 0)
	}
}
