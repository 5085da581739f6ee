package host_test

import (
	"bytes"
	"math/rand"
	"slices"
	"strconv"
	"testing"

	"arcade/api"
	"arcade/block"
	"arcade/saves"
)

// alone is all that goes out on a connection on which these bytes come, if it has a console of its own: as long as turns are asked for, all of them are had.
func alone(t *testing.T, c api.HostConfig, image, data []byte) []byte {
	t.Helper()
	store, e := block.Of(image)
	if e != api.OK {
		t.Fatalf("block.Of = %d", e)
	}
	m := modelOf(c, store)
	m.Connect()
	m.Feed(0, data, nil)
	for e := api.OK; e == api.OK; {
		_, e = m.Turn(1, nil, nil)
	}
	out, _ := m.Replies(0)
	return out
}

// beside is one whose answers are looked at, on a host on which others do whatever they like.
type beside struct {
	*rig
	l        *lot
	conn     int
	data     []byte // that did not come yet
	got      []byte
	longTurn int // workers at most
}

// others does something on other connections.
func (b *beside) others() {
	b.t.Helper()
	for range 1 + b.l.Intn(4) {
		conn := b.l.number(12)
		switch n := b.l.Intn(12); {
		case conn == b.conn:
		case n < 2:
			b.Connect()
		case n < 3:
			b.Hang(conn)
		default:
			b.Feed(conn, b.l.stream(b.t, b.l.Intn(5), 5), b.l.numbers())
		}
	}
}

// goesOn brings a piece of what is to come, or has a turn: has it been told all?
func (b *beside) goesOn(want []byte) bool {
	b.t.Helper()
	b.others()
	if len(b.data) > 0 && b.l.Intn(2) == 0 {
		n := min(len(b.data), []int{1, 30, 1 << 15, 1 << 20}[b.l.Intn(4)])
		b.brings(b.conn, b.data[:n], b.l.numbers()...)
		b.data = b.data[n:]
	}
	if b.l.Intn(3) > 0 {
		b.Turn(1+b.l.Intn(b.longTurn), b.l.numbers(), b.l.numbers())
	}
	if b.l.Intn(4) == 0 {
		out, e := b.Replies(b.conn)
		if e != api.OK {
			b.t.Fatalf("H9: Replies = %d", e)
		}
		b.got = append(b.got, out...)
	}
	if !bytes.HasPrefix(want, b.got) {
		b.t.Fatalf("H10: beside others goes out: %s\nwant: %s", words(decoded(b.t, b.got)), words(decoded(b.t, want)))
	}
	return len(b.got) == len(want) && len(b.data) == 0
}

// TestH10Alone: what one connection is told is what a console of its own answers, whatever others do, whatever the workers, orders and picks are.
func TestH10Alone(t *testing.T) {
	for seed := range int64(5) {
		c := with(plenty, func(c *api.HostConfig) { c.Life = 500000 })
		image := make([]byte, 4096*512)
		own := lotOf(t, 1000+seed, 1)
		own.longest = 7
		var data []byte
		for range 4 {
			data = append(data, own.stream(t, 6, 0)...)
		}
		if seed%2 == 0 {
			data = append(data, own.stream(t, 2, 100)...)
		}
		want := alone(t, c, image, data)
		if len(decoded(t, want)) < 15 {
			t.Fatalf("H10: the script is answered by %s only", words(decoded(t, want)))
		}
		for other := range int64(4) {
			l := lotOf(t, 77*seed+other, 2, 3, 8)
			b := &beside{rig: of(t, c, image), l: l, data: data, longTurn: []int{1, 8, 3, 2}[other]}
			for range 1 + 3*other {
				b.conn, _ = b.Connect()
			}
			steps := 0
			for !b.goesOn(want) {
				if steps++; steps > 5000 {
					t.Fatalf("H10: beside others goes out no more than: %s\nwant: %s", words(decoded(t, b.got)), words(decoded(t, want)))
				}
			}
			for range 5 { // and nothing behind it
				b.others()
				b.Turn(1, nil, nil)
			}
			b.told(b.conn, "")
		}
	}
}

// TestH10Turns: it hangs on how many turns it had: behind each of them it was told the same, whatever was between.
func TestH10Turns(t *testing.T) {
	game := rom(t, 3, 1, 2)
	script := encoded(t, opens(1, "a", game), keys(5), runs(3), look, save, keys(250), runs(2), peek(0xa000), closes, opens(1, "a", game), runs(2))
	quiet := fresh(t, 1)
	quiet.brings(0, script)
	l := lotOf(t, 5, 2, 3)
	loud := fresh(t, 4)
	loud.brings(0, script, 9, 8, 7)
	for i := range 8 {
		a, _ := quiet.Replies(0)
		b, _ := loud.Replies(0)
		same(t, "H10: behind "+strconv.Itoa(i)+" turns", b, a)
		quiet.Turn(1, nil, nil)
		for had := i >= 7; !had; {
			loud.Feed(1+l.Intn(3), l.stream(t, 3, 0), l.numbers())
			turns, _ := loud.Turn(1+l.Intn(8), l.numbers(), l.numbers())
			had = slices.ContainsFunc(turns, func(x api.Turn) bool { return x.Conn == 0 })
		}
	}
}

// TestH10Tenants: saves of others are not found, those of the same tenant are.
func TestH10Tenants(t *testing.T) {
	r := fresh(t, 8)
	for i := range 8 {
		for range i {
			r.sends(i, opens(i+1, "same", counts()), runs(1), save, closes)
			r.drain(1)
		}
	}
	for i := range 8 {
		r.gets(i)
		r.sends(i, opens(i+1, "same", counts()), runs(1), peek(0xa000))
		r.drain(1)
		var kept []byte
		c := consoleOf(t, counts(), kept)
		for range i {
			pictured(t, c, 0)
			kept = c.Save()
			c = consoleOf(t, counts(), kept)
		}
		pictured(t, c, 0)
		v, _ := c.Peek(0xa000)
		r.told(i, "opened "+strconv.Itoa(len(kept))+"; frame 1; byte "+strconv.Itoa(v))
	}
}

// TestH11Bytes: within the quotas and the pool at all times, and all free in the end: as many sessions as at first can be opened again.
func TestH11Bytes(t *testing.T) {
	for i, c := range configs()[:5] {
		c.Life = 300000
		whole := 0
		for _, x := range c.Pool.Classes {
			whole += x.Size * x.Many
		}
		for seed := range int64(2) {
			r := made(t, c, 600)
			r.connects(30)
			over := func() { // all sessions
				for conn := range 30 {
					r.hang(conn)
					r.connect(conn)
				}
				r.stands(0, 30, 0, r.Status().Frames)
			}
			capacity := func() (string, int) {
				over()
				all := ""
				for conn := range 30 {
					r.sends(conn, opens(1, "z", rom(t, 0x12, 0, 2)))
					all += words(r.gets(conn)) + " "
				}
				used := r.Status().Used
				over()
				return all, used
			}
			first, most := capacity()
			l := lotOf(t, 40*int64(i)+seed, 1, 2, 3)
			for range 60 {
				conn := l.Intn(30)
				was := r.Status()
				r.brings(conn, l.stream(t, l.Intn(4), 3), l.numbers()...)
				now := r.Status()
				if now.Used > whole || now.Used > now.Sessions*c.Bytes || now.Sessions > c.Sessions || now.Used-was.Used > c.Bytes {
					t.Fatalf("H11: %+v, the pool has %d bytes", now, whole)
				}
				r.Turn(1+l.Intn(c.Workers), l.numbers(), l.numbers())
				if l.Intn(10) == 0 {
					r.hang(conn)
					r.connect(conn)
				}
			}
			last, again := capacity()
			if first != last || most != again {
				t.Errorf("H11: at first %s, %d bytes, in the end %s, %d bytes", first, most, last, again)
			}
		}
	}
}

// TestH12Crash: a host stops at each write of a save, with whatever is left of the last ones: the next one finds the save that was told last, or the one that was being put.
func TestH12Crash(t *testing.T) {
	l := rand.New(rand.NewSource(12))
	base := made(t, tight, 400)
	base.connects(2)
	base.sends(1, opens(3, "other", counts()), runs(1), save)
	base.drain(1)
	image := base.store.Image()
	first := consoleOf(t, counts(), nil)
	pictured(t, first, 0)
	old := first.Save()
	pictured(t, first, 0)
	next := first.Save()
	seen := map[string]int{}
	for begun := range 2 { // without an earlier save, and with one
		for limit := range 24 {
			for range 3 {
				r := of(t, tight, image)
				r.connects(1)
				r.sends(0, opens(1, "a", counts()), runs(1))
				r.turns(1, nil, 0, 1)
				if begun == 1 {
					r.sends(0, save)
				}
				r.sends(0, runs(1), save)
				r.store.Limit(limit)
				r.turns(1, nil, 0, 2)
				replies := r.gets(0)
				told := replies[len(replies)-1].Kind == api.RepSaved
				var picks []int
				for range l.Intn(24) {
					picks = append(picks, int(l.Uint64()))
				}
				left, e := r.Crash(picks)
				if e != api.OK {
					t.Fatalf("H9: Crash = %d", e)
				}
				which := found(t, left, old, next)
				seen[which]++
				if which == "other" || told && which != "next" || begun == 1 && which == "none" || begun == 0 && which == "old" {
					t.Errorf("H12: with a limit of %d, told: %v, earlier ones: %d, the save that is found is %s", limit, told, begun, which)
				}
			}
		}
	}
	if seen["none"] == 0 || seen["old"] == 0 || seen["next"] == 0 {
		t.Errorf("H12: found was %v", seen)
	}
}

// found tells which save a later host finds, and holds that a session begins with it; and that the other tenant's is there.
func found(t *testing.T, image, old, next []byte) string {
	t.Helper()
	r := of(t, tight, image)
	s, e := saves.Open(r.store)
	if e != api.OK {
		t.Fatalf("saves.Open = %d", e)
	}
	other, e := s.Get(3, "other")
	if e != api.OK || !bytes.Equal(other, old) {
		t.Errorf("H12: another tenant's save: %d bytes, %d", len(other), e)
	}
	b, e := s.Get(1, "a")
	c := consoleOf(t, counts(), b)
	pictured(t, c, 0)
	v, _ := c.Peek(0xa000)
	r.connects(1)
	r.sends(0, opens(1, "a", counts()), runs(1), peek(0xa000))
	r.turns(1, nil, 0, 1)
	r.told(0, "opened "+strconv.Itoa(len(b))+"; frame 1; byte "+strconv.Itoa(v))
	switch {
	case e == api.ErrSaveNone:
		return "none"
	case bytes.Equal(b, old):
		return "old"
	case bytes.Equal(b, next):
		return "next"
	}
	return "other"
}

// TestH12Later: saves of several sessions go from host to host.
func TestH12Later(t *testing.T) {
	game := rom(t, 0x13, 0, 3)
	image := make([]byte, 4096*512)
	c := consoleOf(t, game, nil)
	for n := range 4 {
		r := of(t, plenty, image)
		r.connects(3)
		for i := range 3 {
			r.sends(i, opens(i+1, "-_09az", game), keys(n), runs(2), save)
		}
		r.drain(3)
		pictured(t, c, n)
		_, sum := pictured(t, c, n)
		size := 32768
		if n == 0 {
			size = 0
		}
		for i := range 3 {
			l := r.told(i, "opened "+strconv.Itoa(size)+"; frame 1; frame 2; saved 32768")
			if l[2].M != sum {
				t.Errorf("H12: host %d, connection %d: the sum is %d, want %d", n, i, l[2].M, sum)
			}
		}
		c = consoleOf(t, game, c.Save())
		image, _ = r.Crash(nil)
	}
}

// TestH13Fair: each session that has frames to run has one of them within as many turns as there are sessions.
func TestH13Fair(t *testing.T) {
	for _, x := range []struct{ sessions, workers int }{{1, 1}, {2, 1}, {3, 2}, {5, 8}, {7, 3}, {9, 4}, {64, 1}, {64, 8}} {
		r := fresh(t, x.sessions)
		waited := make([]int, x.sessions)
		for i := range x.sessions {
			r.sends(i, opens(1, "a", idle()), runs(600))
		}
		for n := 0; n < 3*x.sessions; {
			l, _ := r.Turn(x.workers, nil, nil)
			for _, turn := range l {
				n++
				for i := range waited {
					if waited[i]++; waited[i] > x.sessions {
						t.Fatalf("H13: of %d sessions with %d workers %d has waited for %d turns", x.sessions, x.workers, i, waited[i])
					}
				}
				waited[turn.Conn] = 0
			}
		}
	}
}

// TestH13Wild: so it is while sessions come and go, and some have nothing to run: nobody is ahead who was not when the wait began.
func TestH13Wild(t *testing.T) {
	l := rand.New(rand.NewSource(13))
	r := fresh(t, 12)
	type wait struct{ turns, most int }
	ready := map[int]wait{}
	left := map[int]int{}
	for range 400 {
		conn := l.Intn(12)
		if l.Intn(4) == 0 {
			r.hang(conn)
			r.connect(conn)
			delete(ready, conn)
			delete(left, conn)
		} else if left[conn] == 0 {
			left[conn] = 1 + l.Intn(20)
			r.sends(conn, opens(1, "a", idle()), runs(left[conn]))
			ready[conn] = wait{most: r.Status().Sessions}
		}
		turns, _ := r.Turn(1+l.Intn(3), nil, nil)
		for _, x := range turns {
			for i, w := range ready {
				w.turns++
				ready[i] = w
				if w.turns > w.most {
					t.Fatalf("H13: of %d sessions %d has waited for %d turns", w.most, i, w.turns)
				}
			}
			ready[x.Conn] = wait{most: r.Status().Sessions}
			if left[x.Conn]--; left[x.Conn] == 0 {
				delete(ready, x.Conn)
			}
		}
	}
	if r.Status().Frames < 400 {
		t.Errorf("H13: there were %d turns only", r.Status().Frames)
	}
}
