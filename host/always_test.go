package host_test

import (
	"bytes"
	"math/rand"
	"slices"
	"strconv"
	"sync"
	"testing"

	"arcade/api"
	"arcade/block"
	"arcade/host"
)

// lot draws messages and calls.
type lot struct {
	*rand.Rand
	roms    [][]byte
	tenants []int
	longest int // Run
}

func lotOf(t *testing.T, seed int64, tenants ...int) *lot {
	t.Helper()
	return &lot{Rand: rand.New(rand.NewSource(seed)), tenants: tenants, longest: 4, roms: [][]byte{
		idle(), uneven(), counts(), broken(), nil,
		rom(t, 3, 0, 2), rom(t, 6, 0, 0), rom(t, 2, 0, 2), rom(t, 0x13, 1, 3), rom(t, 1, 1, 0), rom(t, 5, 0, 0),
	}}
}

func (l *lot) message() api.Message {
	switch n := l.Intn(100); {
	case n < 12:
		return l.opening()
	case n < 30:
		return keys(l.Intn(256))
	case n < 60:
		return runs(1 + l.Intn(l.longest))
	case n < 70:
		return look
	case n < 82:
		return save
	case n < 96:
		return peek([]int{0xa000, 0xc000, 0xc001, 0xc003, 0x4000, 0x101, 0xff44, l.Intn(65536)}[l.Intn(8)])
	}
	return closes
}

func (l *lot) opening() api.Message {
	return opens(l.tenants[l.Intn(len(l.tenants))], string(rune('a'+l.Intn(3))), l.roms[l.Intn(len(l.roms))])
}

// stream is bytes of some messages, seldom with what is none behind them.
func (l *lot) stream(t *testing.T, many, wrong int) []byte {
	b := encoded(t, l.opening())
	for range many {
		b = append(b, encoded(t, l.message())...)
	}
	if l.Intn(100) < wrong {
		b = append(b, wrongs[l.Intn(len(wrongs))].data...)
	}
	return b
}

// numbers are any, as picks or as an order.
func (l *lot) numbers() []int {
	var list []int
	for range l.Intn(12) {
		if l.Intn(2) == 0 {
			list = append(list, l.Intn(10))
		} else {
			list = append(list, int(l.Uint64()))
		}
	}
	return list
}

// number is one of 0 to most, seldom another one.
func (l *lot) number(most int) int {
	if l.Intn(25) == 0 {
		return far[l.Intn(len(far))]
	}
	return l.Intn(most + 1)
}

// configs are some that are drawn upon.
func configs() []api.HostConfig {
	return []api.HostConfig{
		tight,
		{Sessions: 5, Workers: 3, Bytes: 1 << 20, Life: 400000, Pool: pool(4, 6000, 5, 9000, 9, 17000, 12)},
		{Sessions: 1, Workers: 1, Bytes: 60000, Life: 150000, Pool: pool(2, 65536, 9)},
		{Sessions: 8, Workers: 8, Bytes: 50000, Life: api.MaxLife, Pool: pool(8, 5760, 8, 8192, 8, 16384, 16)},
		{Sessions: 64, Workers: 5, Bytes: 80000, Life: 1, Pool: pool(64, 16384, 30)},
		{Sessions: 3, Workers: 2, Bytes: 1 << 30, Life: 1000000, Pool: pool(3, 5760, 9, 16383, 9)},
	}
}

// twins are a host and its model, on stores that are alike.
type twins struct {
	t      *testing.T
	c      api.HostConfig
	h      *host.Host
	m      *model
	stores [2]*block.Store
	left   map[int][]byte // of each connection bytes that are on their way
	done   map[string]int
}

func (w *twins) makes(image []byte) {
	w.t.Helper()
	for i := range w.stores {
		w.stores[i], _ = block.Of(image)
	}
	h, e := host.New(w.c, w.stores[0])
	if e != api.OK {
		w.t.Fatalf("H1: New = %d", e)
	}
	w.h, w.m, w.left = h, modelOf(w.c, w.stores[1]), map[int][]byte{}
	for range 6 {
		w.h.Connect()
		w.m.Connect()
	}
}

// does does a call that is drawn, on both: what they answered is to be the same.
func (w *twins) does(l *lot) {
	w.t.Helper()
	conn := l.number(8)
	var kind string
	var e, want api.Errno
	switch n := l.Intn(300); {
	case n < 15:
		kind = "Connect"
		var a, b int
		a, e = w.h.Connect()
		b, want = w.m.Connect()
		w.equal(kind, a == b)
	case n < 25:
		kind = "Hang"
		e, want = w.h.Hang(conn), w.m.Hang(conn)
		delete(w.left, conn)
	case n < 160:
		kind = "Feed"
		if len(w.left[conn]) == 0 {
			w.left[conn] = l.stream(w.t, 1+l.Intn(9), 6)
		}
		b, picks := w.left[conn], l.numbers()
		b = b[:min(len(b), []int{1, 3, 20, 1 << 20, 1 << 20, 1 << 20}[l.Intn(6)]+l.Intn(10))]
		w.left[conn] = w.left[conn][len(b):]
		e, want = w.h.Feed(conn, b, picks), w.m.Feed(conn, b, picks)
	case n < 260:
		kind = "Turn"
		workers, order, picks := 1+l.number(w.c.Workers-1), l.numbers(), l.numbers()
		a, e1 := w.h.Turn(workers, order, picks)
		b, e2 := w.m.Turn(workers, order, picks)
		e, want = e1, e2
		w.equal(kind, slices.Equal(a, b))
	case n < 295:
		kind = "Replies"
		e, want = w.replies(conn)
	case n < 298:
		kind = "Limit"
		many := l.Intn(60)
		w.stores[0].Limit(many)
		w.stores[1].Limit(many)
	default:
		kind = "Crash"
		picks := l.numbers()
		a, e1 := w.h.Crash(picks)
		b, e2 := w.m.Crash(picks)
		e, want = e1, e2
		w.equal(kind, bytes.Equal(a, b))
	}
	if e != want {
		w.t.Fatalf("%s: its error is %d, want %d", kind, e, want)
	}
	w.equal("Status", w.h.Status() == w.m.Status())
	w.done[kind+" "+strconv.Itoa(int(e))]++
}

func (w *twins) replies(conn int) (e, want api.Errno) {
	w.t.Helper()
	a, e := w.h.Replies(conn)
	b, want := w.m.Replies(conn)
	if !bytes.Equal(a, b) {
		w.t.Fatalf("H4: on connection %d went out: %s\nwant: %s", conn, words(decoded(w.t, a)), words(decoded(w.t, b)))
	}
	for _, r := range decoded(w.t, a) {
		w.done[words([]api.Reply{{Kind: r.Kind}})[:4]]++
		if r.Kind == api.RepError {
			w.done["error "+strconv.Itoa(r.N)]++
		}
	}
	return e, want
}

func (w *twins) equal(kind string, is bool) {
	w.t.Helper()
	if !is {
		w.t.Fatalf("%s: a host and its model do not answer the same", kind)
	}
}

// TestH4Model: calls drawn by lot, each of which a host answers as its model does.
func TestH4Model(t *testing.T) {
	done := map[string]int{}
	for i, c := range configs() {
		for seed := range int64(3) {
			l := lotOf(t, 100*int64(i)+seed, 1, 2, 8)
			w := &twins{t: t, c: c, done: done}
			w.makes(make([]byte, 600*512))
			for range 400 {
				w.does(l)
				if w.m.dead && l.Intn(4) == 0 {
					w.makes(w.m.store.Crash(nil))
				}
			}
			for conn := range 10 {
				w.replies(conn)
			}
		}
	}
	for _, kind := range []string{"Connect 0", "Connect 143", "Hang 0", "Hang 141", "Hang 143", "Feed 0", "Feed 141", "Feed 143", "Turn 0", "Turn 1", "Turn 146", "Turn 143", "Replies 0", "Replies 141", "Replies 143", "Crash 0", "Crash 143",
		"open", "busy", "fram", "pict", "save", "byte", "clos", "quot", "error 41", "error 42", "error 48", "error 95", "error 111", "error 112", "error 114", "error 121", "error 122", "error 123", "error 144", "error 145"} {
		if done[kind] == 0 {
			t.Errorf("the lot has drawn no %s", kind)
		}
	}
}

// TestH4Any: bytes of any kind are messages or a break, and nothing else comes of them.
func TestH4Any(t *testing.T) {
	l := lotOf(t, 9, 1)
	good := encoded(t, opens(1, "a", idle()), keys(9), runs(1), look, save, peek(4), closes)
	for range 300 {
		r := made(t, tight, 80)
		r.connects(2)
		b := slices.Clone(good)
		for range 1 + l.Intn(3) { // most of them where frames begin and end
			at := []int{l.Intn(20), len(b) - 1 - l.Intn(40), l.Intn(len(b))}[l.Intn(3)]
			b[at] = byte(l.Intn(256))
		}
		r.brings(0, b[l.Intn(3):], l.numbers()...)
		r.drain(1)
		r.gets(0)
		r.told(1, "")
	}
}

// TestH4SideBySide: hosts that are used at the same time answer what each answers alone.
func TestH4SideBySide(t *testing.T) {
	run := func(seed int64) []byte {
		l := lotOf(t, seed, 1, 2)
		store, _ := block.New(600)
		h, _ := host.New(tight, store)
		var all []byte
		for range 3 {
			h.Connect()
		}
		for range 40 {
			h.Feed(l.Intn(3), l.stream(t, 3, 2), l.numbers())
			h.Turn(2, l.numbers(), l.numbers())
			b, _ := h.Replies(l.Intn(3))
			all = append(all, b...)
		}
		return all
	}
	var want, got [6][]byte
	for i := range want {
		want[i] = run(int64(i))
	}
	var all sync.WaitGroup
	for i := range got {
		all.Go(func() { got[i] = run(int64(i)) })
	}
	all.Wait()
	for i := range got {
		same(t, "H4: hosts side by side", got[i], want[i])
	}
}
