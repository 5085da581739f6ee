package host_test

import (
	"testing"

	"arcade/api"
	"arcade/block"
	"arcade/saves"
)

// pool is classes, told as size and number of each.
func pool(arenas int, pairs ...int) api.PoolConfig {
	c := api.PoolConfig{Arenas: arenas}
	for i := 0; i < len(pairs); i += 2 {
		c.Classes = append(c.Classes, api.Class{Size: pairs[i], Many: pairs[i+1]})
	}
	return c
}

// TestH5Example: the document's.
func TestH5Example(t *testing.T) {
	r := made(t, with(tight, func(c *api.HostConfig) { c.Sessions = 1 }), 800)
	r.connects(2)
	r.sends(0, opens(1, "a", idle()))
	r.sends(1, opens(2, "a", idle()))
	r.told(0, "opened 0")
	r.told(1, "busy")
	r.sends(0, closes)
	r.sends(1, opens(2, "a", idle()))
	r.told(0, "closed 0")
	r.told(1, "opened 0")
}

// TestH5Check: ROMs that Check refuses, told ahead of all else.
func TestH5Check(t *testing.T) {
	bad := map[string][]byte{"error 42": broken(), "error 41": idle()[:32767]}
	other := rom(t, 3, 0, 2)
	other[0x143] = 0xc0
	bad["error 44"] = sealed(other)
	bad["error 45"] = rom(t, 7, 0, 0)
	bad["error 46"] = rom(t, 3, 0, 2)[:32768]
	bad["error 46"][0x148] = 1
	bad["error 46"] = sealed(bad["error 46"])
	bad["error 47"] = rom(t, 3, 0, 4)
	sum := idle()
	sum[0x14d]++
	bad["error 43"] = sum
	for want, b := range bad {
		r := made(t, with(tight, func(c *api.HostConfig) { c.Sessions = 1 }), 800)
		r.connects(2)
		r.sends(0, opens(1, "a", b), opens(1, "a", idle()))
		r.told(0, want+"; opened 0")
		r.sends(1, opens(1, "a", b), opens(1, "a", idle()), opens(1, "a", nil))
		r.told(1, want+"; busy; error 41")
		for _, c := range []api.HostConfig{with(tight, func(c *api.HostConfig) { c.Bytes = 0 }), with(tight, func(c *api.HostConfig) { c.Pool = pool(1, 5, 5) })} {
			r := made(t, c, 800)
			r.connects(1)
			r.sends(0, opens(1, "a", b))
			r.told(0, want)
		}
	}
}

// TestH5Needs: what each cartridge needs, with just as many bytes as that is, and one less.
func TestH5Needs(t *testing.T) {
	for _, x := range []struct {
		kind, code, ramCode byte
		pool                api.PoolConfig
		bytes               int
	}{
		{0, 0, 0, pool(1, 16384, 3), 3 * 16384},
		{0, 0, 0, pool(1, 5760, 1, 8192, 0, 16384, 2), 5760 + 2*16384},
		{0, 0, 0, pool(1, 5759, 9, 8192, 1, 16384, 2), 8192 + 2*16384},
		{0, 0, 0, pool(1, 5761, 1, 16383, 9, 65536, 2), 5761 + 2*65536},
		{8, 0, 2, pool(1, 5760, 1, 8192, 1, 16384, 2), 5760 + 8192 + 2*16384},
		{8, 0, 2, pool(1, 8191, 1, 8193, 1, 16385, 2), 8191 + 8193 + 2*16385},
		{8, 0, 2, pool(1, 8192, 2, 16384, 2), 2*8192 + 2*16384},
		{8, 0, 2, pool(1, 20000, 4), 4 * 20000},
		{6, 0, 0, pool(1, 512, 9, 5760, 1, 8192, 1, 16384, 2), 5760 + 8192 + 2*16384},
		{5, 3, 0, pool(1, 5760, 1, 8192, 1, 16384, 16), 5760 + 8192 + 16*16384},
		{3, 0, 3, pool(1, 5760, 1, 8192, 4, 16384, 2), 5760 + 4*8192 + 2*16384},
		{1, 3, 0, pool(1, 5760, 1, 16384, 16), 5760 + 16*16384},
		{0x1b, 2, 4, pool(1, 5760, 1, 8192, 16, 16384, 8), 5760 + 16*8192 + 8*16384},
		{0x1a, 1, 5, pool(1, 5760, 1, 8192, 8, 16384, 4), 5760 + 8*8192 + 4*16384},
	} {
		game := rom(t, x.kind, x.code, x.ramCode)
		c := api.HostConfig{Sessions: 64, Workers: 1, Bytes: x.bytes, Life: 1, Pool: x.pool}
		r := made(t, c, 800)
		r.connects(2)
		r.sends(0, opens(1, "a", game))
		r.told(0, "opened 0")
		r.stands(1, 2, x.bytes, 0)
		c.Bytes--
		r = made(t, c, 800)
		r.connects(2)
		r.sends(0, opens(1, "a", game))
		r.told(0, "error 145")
		r.stands(0, 2, 0, 0)
		for class, y := range x.pool.Classes { // a buffer less of a class that is needed; those that are not have nine of them, or none
			if y.Many == 0 || y.Many == 9 {
				continue
			}
			c := with(c, func(c *api.HostConfig) { c.Bytes, c.Pool.Classes[class].Many = 1<<40, y.Many-1 })
			r := made(t, c, 800)
			r.connects(1)
			r.sends(0, opens(1, "a", game))
			r.told(0, "busy")
			r.stands(0, 1, 0, 0)
		}
	}
}

// TestH5NoClass: a pool that has no class of a size; that is told ahead of the bytes and of Busy.
func TestH5NoClass(t *testing.T) {
	for _, p := range []api.PoolConfig{pool(1, 8192, 100), pool(1, 1, 1), pool(1, 5760, 9, 16383, 9)} {
		for _, bytes := range []int{0, 1 << 40} {
			r := made(t, api.HostConfig{Sessions: 1, Workers: 1, Bytes: bytes, Life: 1, Pool: p}, 800)
			r.connects(1)
			r.sends(0, opens(1, "a", idle()), opens(1, "a", counts()), opens(1, "a", broken()))
			r.told(0, "error 95; error 95; error 42")
			r.stands(0, 1, 0, 0)
		}
	}
}

// TestH5Bytes: too many bytes, told ahead of Busy: no session, no arena, no buffer is left.
func TestH5Bytes(t *testing.T) {
	for _, c := range []api.HostConfig{
		{Sessions: 1, Pool: pool(2, 8192, 9, 16384, 9)},
		{Sessions: 2, Pool: pool(1, 8192, 9, 16384, 9)},
		{Sessions: 2, Pool: pool(2, 8192, 1, 16384, 2)},
	} {
		c.Workers, c.Bytes, c.Life = 1, 40960, 1000000
		r := made(t, c, 800)
		r.connects(2)
		r.sends(0, opens(1, "a", counts()), opens(1, "a", idle()))
		r.sends(1, opens(1, "a", counts()), opens(1, "a", idle()))
		r.told(0, "error 145; opened 0")
		r.told(1, "error 145; busy")
		r.stands(1, 2, 40960, 0)
	}
	r := made(t, with(plenty, func(c *api.HostConfig) { c.Bytes = 0 }), 800)
	r.connects(1)
	r.sends(0, opens(1, "a", idle()))
	r.told(0, "error 145")
}

// TestH5Sessions: as many sessions as there may be, on any of the connections; 64 at most.
func TestH5Sessions(t *testing.T) {
	for _, many := range []int{1, 2, 63, 64} {
		for _, arenas := range []bool{false, true} {
			r := made(t, with(plenty, func(c *api.HostConfig) {
				if arenas {
					c.Pool.Arenas = many
				} else {
					c.Sessions = many
				}
			}), 800)
			r.connects(128)
			for i := range 128 {
				r.sends(127-i, opens(1, "a", idle()))
				if i < many {
					r.told(127-i, "opened 0")
				} else {
					r.told(127-i, "busy")
				}
			}
			r.stands(many, 128, many*38528, 0)
			r.sends(127, closes)
			r.sends(5, opens(1, "a", idle()))
			r.told(5, "opened 0")
			r.sends(127, opens(1, "a", idle()))
			r.told(127, "closed 0; busy")
		}
	}
}

// TestH5Buffers: for one class there are too few buffers, whoever has the others.
func TestH5Buffers(t *testing.T) {
	r := made(t, api.HostConfig{Sessions: 9, Workers: 1, Bytes: 1 << 20, Life: 1000000, Pool: pool(9, 5760, 3, 8192, 2, 16384, 9)}, 800)
	r.connects(4)
	r.sends(0, opens(1, "a", counts()))
	r.sends(1, opens(1, "a", rom(t, 3, 1, 2)))
	r.sends(2, opens(1, "a", rom(t, 3, 0, 2)), opens(1, "a", rom(t, 1, 1, 0)), opens(1, "a", idle()))
	r.sends(3, opens(1, "a", idle()))
	r.told(0, "opened 0")
	r.told(1, "opened 0")
	r.told(2, "busy; busy; opened 0") // no RAM's, no banks' left
	r.told(3, "busy")                 // no picture's
	r.sends(1, closes)
	r.sends(3, opens(1, "a", rom(t, 1, 1, 0)))
	r.told(3, "opened 0")
}

// TestH5Dead: Busy is told ahead of what is wrong with the saves; that only to cartridges with a battery.
func TestH5Dead(t *testing.T) {
	r := made(t, with(tight, func(c *api.HostConfig) { c.Sessions = 1 }), 800)
	r.connects(2)
	r.store.Limit(0)
	r.sends(0, opens(1, "a", counts()), save)
	r.sends(1, opens(1, "a", counts()))
	r.told(0, "opened 0; error 114")
	r.told(1, "busy")
	r.sends(0, closes)
	r.sends(1, opens(1, "a", counts()), opens(1, "a", rom(t, 2, 0, 2)))
	r.told(1, "error 114; opened 0")
	r.stands(1, 2, 49152, 0)
}

// TestH5Unfit: a save that is none of the cartridge's: of another size, or, of mapper 2, with bytes that are too great.
func TestH5Unfit(t *testing.T) {
	store, _ := block.New(4096)
	s, e := saves.Open(store)
	if e != api.OK {
		t.Fatalf("saves.Open = %d", e)
	}
	half := make([]byte, 512)
	half[511] = 16
	for name, b := range map[string][]byte{"small": make([]byte, 8191), "half": half, "whole": make([]byte, 512), "none": nil, "bank": make([]byte, 8192)} {
		if e := s.Put(4, name, b); e != api.OK {
			t.Fatalf("saves.Put = %d", e)
		}
	}
	r := of(t, plenty, store.Image())
	r.connects(1)
	r.sends(0, opens(4, "small", counts()), opens(4, "half", rom(t, 6, 0, 0)), opens(4, "bank", rom(t, 6, 0, 0)), opens(4, "whole", counts()), opens(4, "bank", rom(t, 0x1b, 0, 3)))
	r.told(0, "error 48; error 48; error 48; error 48; error 48")
	r.stands(0, 1, 0, 0)
	r.sends(0, opens(4, "whole", rom(t, 6, 0, 0)), closes, opens(4, "bank", counts()), closes, opens(4, "none", counts()), closes, opens(4, "none", rom(t, 6, 0, 0)), closes, opens(4, "half", rom(t, 5, 0, 0)), closes, opens(4, "small", idle()), closes, opens(4, "small", rom(t, 2, 0, 2)), closes)
	r.told(0, "opened 512; closed 0; opened 8192; closed 0; opened 0; closed 0; opened 0; closed 0; opened 0; closed 0; opened 0; closed 0; opened 0; closed 0")
}

// TestH5Loaded: whatever the picks are, a console is one of its own ROM, all banks of it, and of its own save.
func TestH5Loaded(t *testing.T) {
	for _, x := range []struct{ kind, code, ramCode byte }{{0, 0, 0}, {1, 3, 0}, {3, 3, 3}, {6, 2, 0}, {5, 3, 0}, {0x12, 1, 3}, {0x1b, 3, 4}, {0x1b, 0, 5}} {
		game := rom(t, x.kind, x.code, x.ramCode)
		for _, picks := range [][]int{nil, {1 << 62, -5, 3, 3, 3, 0, 99}, {-1 << 63, 63, 62, 61, 60, 59, 58, 57, 56, 55, 54, 53, 52, 51, 50, 49, 48, 47, 46, 45, 44, 43, 42, 41}} {
			r := made(t, plenty, 4096)
			r.connects(2)
			c := consoleOf(t, game, nil)
			r.brings(0, encoded(t, opens(2, "g", game), keys(9), runs(2), peek(0xc003), save, closes, opens(2, "g", game), keys(200), runs(2), peek(0xc003), look), picks...)
			r.sends(1, opens(1, "o", rom(t, 0x1b, 3, 4)))
			r.Turn(1, nil, picks)
			r.Turn(1, nil, picks)
			pictured(t, c, 9)
			_, sum := pictured(t, c, 9)
			bank, _ := c.Peek(0xc003)
			l := r.gets(0)
			if len(l) != 7 || l[2].M != sum || l[3].N != bank || l[6].Kind != api.RepOpened || l[6].N != len(c.Save()) {
				t.Fatalf("H5: kind %d: %s, want the byte %d and the sum %d", x.kind, words(l), bank, sum)
			}
			c = consoleOf(t, game, c.Save())
			r.drain(2)
			pictured(t, c, 200)
			picture, sum := pictured(t, c, 200)
			bank, _ = c.Peek(0xc003)
			l = r.gets(0)
			if len(l) != 4 || l[1].M != sum || l[2].N != bank {
				t.Fatalf("H5: kind %d, behind a save: %s, want the byte %d and the sum %d", x.kind, words(l), bank, sum)
			}
			same(t, "H5: the picture", l[3].Data, picture)
		}
	}
}
