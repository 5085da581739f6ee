package host

import (
	"math/rand"
	"slices"
	"testing"

	"arcade/api"
	"arcade/arena"
	"arcade/block"
	"arcade/proto"
)

// cartridge has a kind, a ROM's code and a RAM's code, and does nothing.
func cartridge(kind, code, ramCode byte) []byte {
	b := make([]byte, 32768<<code)
	copy(b[0x100:], []byte{24, 254})
	for i := range 48 {
		b[0x104+i] = byte(7*i*i + 13*i + 206)
	}
	for bank := range len(b) / api.BankSize {
		b[bank*api.BankSize+0x200] = byte(bank + 1)
	}
	b[0x147], b[0x148], b[0x149] = kind, code, ramCode
	b[0x14d] = 231
	for _, x := range b[0x134:0x14d] {
		b[0x14d] -= x
	}
	return b
}

func bytesOf(t *testing.T, list ...api.Message) []byte {
	t.Helper()
	var all []byte
	for _, m := range list {
		b, e := proto.Encode(m)
		if e != api.OK {
			t.Fatalf("proto.Encode = %d", e)
		}
		all = append(all, b...)
	}
	return all
}

func opening(name string, rom []byte) api.Message {
	return api.Message{Kind: api.MsgOpen, Tenant: 1, Name: name, Data: rom}
}

var (
	closing  = api.Message{Kind: api.MsgClose}
	oneFrame = api.Message{Kind: api.MsgRun, N: 1}
)

// madeInside is a host with connections, and a pool of which nothing is taken, to hold its own against.
func madeInside(t *testing.T, conns int) (*Host, *arena.Pool) {
	t.Helper()
	store, _ := block.New(800)
	c := api.HostConfig{Sessions: 9, Workers: 8, Bytes: 1 << 20, Life: api.MaxLife, Pool: api.PoolConfig{Arenas: 9, Classes: []api.Class{{Size: 5760, Many: 7}, {Size: 8192, Many: 20}, {Size: 16384, Many: 31}}}}
	h, e := New(c, store)
	if e != api.OK {
		t.Fatalf("H1: New = %d", e)
	}
	for range conns {
		h.Connect()
	}
	pool, _ := arena.New(c.Pool)
	return h, pool
}

// takes is the buffers that a session with so many banks of ROM and of RAM takes, by the document's words; the picks that are left come back.
func takes(pool *arena.Pool, roms, rams int, picks []int) ([]int, []int, int) {
	id, _ := pool.Open(1 << 20)
	var buffers []int
	for i := range roms + rams + 1 {
		size := api.PictureSize
		if i < roms {
			size = api.BankSize
		} else if i < roms+rams {
			size = api.RamSize
		}
		pick := 0
		if len(picks) > 0 {
			pick, picks = picks[0], picks[1:]
		}
		l, _ := pool.Take(id, size, pick)
		buffers = append(buffers, l.Buffer)
	}
	return buffers, picks, id
}

// has holds that a connection's session has just these buffers.
func has(t *testing.T, h *Host, conn int, want []int) {
	t.Helper()
	s := h.conns[conn].session
	if s == nil {
		t.Fatalf("H5: connection %d has no session", conn)
	}
	var got []int
	for _, l := range h.pool.Leases(s.arena) {
		got = append(got, l.Buffer)
	}
	if !slices.Equal(got, want) {
		t.Errorf("H5: connection %d has the buffers %v, want %v", conn, got, want)
	}
	if s.picture != want[len(want)-1] {
		t.Errorf("H5: the picture of connection %d is in %d, want %d", conn, s.picture, want[len(want)-1])
	}
}

// TestH5Picks: the i-th buffer is taken with the i-th pick, for all Opens of a call; Opens that are refused use up none.
func TestH5Picks(t *testing.T) {
	r := rand.New(rand.NewSource(5))
	small, large := cartridge(0, 0, 0), cartridge(0x1b, 1, 3)
	wrong := cartridge(0, 0, 0)
	wrong[0x14d]++
	for many := range 30 {
		h, pool := madeInside(t, 3)
		var picks []int
		for range many {
			picks = append(picks, []int{r.Intn(40), int(r.Uint64())}[r.Intn(2)])
		}
		h.Feed(0, bytesOf(t, opening("a", wrong), opening("a", large), opening("a", large)), picks)
		first, left, id := takes(pool, 4, 4, picks)
		has(t, h, 0, first)
		h.Feed(0, bytesOf(t, closing, opening("a", small), closing, opening("a", wrong), opening("a", large)), left)
		pool.Close(id)
		_, left, id = takes(pool, 2, 0, left)
		pool.Close(id)
		first, left, _ = takes(pool, 4, 4, left)
		has(t, h, 0, first)
		h.Feed(1, bytesOf(t, opening("b", small)), left)
		second, _, _ := takes(pool, 2, 0, left)
		has(t, h, 1, second)
		has(t, h, 0, first)
	}
}

// TestH5PicksOfTurn: in a Turn they go on from one turn's end to the next one's.
func TestH5PicksOfTurn(t *testing.T) {
	r := rand.New(rand.NewSource(55))
	small, large := cartridge(0, 0, 0), cartridge(0x1b, 1, 3)
	for many := range 25 {
		h, pool := madeInside(t, 2)
		var ids [2]int
		for conn := range 2 {
			h.Feed(conn, bytesOf(t, opening("a", small), oneFrame, closing, opening("a", large)), nil)
			_, _, ids[conn] = takes(pool, 2, 0, nil)
		}
		var picks []int
		for range many {
			picks = append(picks, r.Intn(100)-50)
		}
		h.Turn(2, []int{1}, picks)
		pool.Close(ids[1])
		second, left, _ := takes(pool, 4, 4, picks)
		pool.Close(ids[0])
		first, _, _ := takes(pool, 4, 4, left)
		has(t, h, 1, second)
		has(t, h, 0, first)
	}
}

// TestH5Stored: the banks stand in their buffers, in their order, and the save behind them.
func TestH5Stored(t *testing.T) {
	h, _ := madeInside(t, 1)
	rom := cartridge(0x1b, 1, 3)
	save := make([]byte, 32768)
	for i := range save {
		save[i] = byte(i>>13*50 + i)
	}
	if e := h.saves.Put(1, "kept", save); e != api.OK {
		t.Fatalf("saves.Put = %d", e)
	}
	h.Feed(0, bytesOf(t, opening("kept", rom)), []int{6, 5, 4, 3, 2, 1, 0, 9, 3})
	leases := h.pool.Leases(h.conns[0].session.arena)
	if len(leases) != 9 {
		t.Fatalf("H5: a session has %d buffers", len(leases))
	}
	var got []byte
	for _, l := range leases[:8] {
		b, _ := h.pool.Load(h.conns[0].session.arena, l.Buffer, 0, l.Size)
		got = append(got, b...)
	}
	if !slices.Equal(got, append(slices.Clone(rom), save...)) {
		t.Error("H5: the buffers do not have the ROM's banks and the save")
	}
	if !slices.Equal(h.conns[0].session.console.Save(), save) {
		t.Error("H5: the console is not made of the save")
	}
}

// TestH8Free: when a session is over no arena is open, all buffers are free, and it is out of the round.
func TestH8Free(t *testing.T) {
	for _, end := range []func(h *Host){
		func(h *Host) { h.Feed(0, []byte{0, 0, 0, 1, 7}, nil) },
		func(h *Host) { h.Feed(0, []byte{0, 0, 0, 0}, nil) },
		func(h *Host) { h.Hang(0) },
		func(h *Host) {
			h.config.Life = 1
			h.Feed(0, bytesOf(t, oneFrame), nil)
			h.Turn(1, nil, nil)
		},
	} {
		h, _ := madeInside(t, 2)
		h.Feed(0, bytesOf(t, opening("a", cartridge(0x1b, 1, 3))), []int{5, 6, 7})
		if l := h.round.Round(); !slices.Equal(l, []int{0}) {
			t.Errorf("H6: the round is %v", l)
		}
		end(h)
		for class, x := range h.config.Pool.Classes {
			if n := len(h.pool.Free(class)); n != x.Many {
				t.Errorf("H8: of class %d %d are free, want %d", class, n, x.Many)
			}
		}
		if _, e := h.pool.Used(0); e != api.ErrArenaNone {
			t.Errorf("H8: the arena is open: %d", e)
		}
		if l := h.round.Round(); len(l) != 0 {
			t.Errorf("H8: the round is %v", l)
		}
	}
}

// TestH6Sum: the check sum is the document's.
func TestH6Sum(t *testing.T) {
	if n := sumOf(make([]byte, 4)); n != 0x2144df1c {
		t.Errorf("H6: the sum of four bytes 0 is %x", n)
	}
	if n := sumOf([]byte("123456789")); n != 0xcbf43926 {
		t.Errorf("H6: the sum of nine digits is %x", n)
	}
	if n := sumOf(nil); n != 0 {
		t.Errorf("H6: the sum of nothing is %x", n)
	}
}

// TestH3Queue: what is put first is taken first, however puts and takes follow one another; what was taken is not kept.
func TestH3Queue(t *testing.T) {
	r := rand.New(rand.NewSource(3))
	var q queue[*int]
	var want []*int
	for range 5000 {
		if r.Intn(2) == 0 {
			x := new(int)
			q.put(x)
			want = append(want, x)
			continue
		}
		was := q
		x, some := q.take()
		if some != (len(want) > 0) {
			t.Fatalf("H3: take of %d that wait tells %v", len(want), some)
		}
		if !some {
			continue
		}
		if x != want[0] || was[0] != nil {
			t.Fatal("H3: the first one is not taken, or is kept")
		}
		want = want[1:]
	}
	if len(q) != len(want) {
		t.Errorf("H3: %d wait, want %d", len(q), len(want))
	}
}
