package host_test

import (
	"bytes"
	"fmt"
	"hash/crc32"
	"math"
	"slices"
	"strings"
	"testing"

	"arcade/api"
	"arcade/asm"
	"arcade/block"
	"arcade/console"
	"arcade/host"
	"arcade/proto"
)

// far are numbers that are beyond all bounds.
var far = []int{math.MinInt, math.MinInt + 1, math.MinInt32, -65536, -129, -128, -8, -2, -1, 128, 129, 256, 1 << 16, 1 << 32, 1<<32 + 1, 1 << 62, math.MaxInt32, math.MaxInt - 1, math.MaxInt}

// plenty is a configuration with room for all that the tests open at one time.
var plenty = api.HostConfig{
	Sessions: 64, Workers: 8, Bytes: 16777216, Life: api.MaxLife,
	Pool: api.PoolConfig{Classes: []api.Class{{Size: 5760, Many: 64}, {Size: 8192, Many: 256}, {Size: 16384, Many: 512}}, Arenas: 64},
}

// tight has room for two sessions of a cartridge with two banks and one bank of RAM.
var tight = api.HostConfig{
	Sessions: 2, Workers: 2, Bytes: 49152, Life: api.MaxLife,
	Pool: api.PoolConfig{Classes: []api.Class{{Size: 8192, Many: 4}, {Size: 16384, Many: 4}}, Arenas: 2},
}

// with is a configuration of which some is changed.
func with(c api.HostConfig, change func(c *api.HostConfig)) api.HostConfig {
	c.Pool.Classes = slices.Clone(c.Pool.Classes)
	change(&c)
	return c
}

// rig is a host, and its store, of which it is asked by the tests alone.
type rig struct {
	*host.Host
	t     *testing.T
	store *block.Store
}

// made is a host on a store of so many sectors, all 0.
func made(t *testing.T, c api.HostConfig, sectors int) *rig {
	t.Helper()
	store, e := block.New(sectors)
	if e != api.OK {
		t.Fatalf("block.New(%d) = %d", sectors, e)
	}
	return on(t, c, store)
}

// of is a host on a store of these bytes.
func of(t *testing.T, c api.HostConfig, image []byte) *rig {
	t.Helper()
	store, e := block.Of(image)
	if e != api.OK {
		t.Fatalf("block.Of %d bytes = %d", len(image), e)
	}
	return on(t, c, store)
}

func on(t *testing.T, c api.HostConfig, store *block.Store) *rig {
	t.Helper()
	h, e := host.New(c, store)
	if h == nil || e != api.OK {
		t.Fatalf("H1: New(%+v) = %v, %d", c, h != nil, e)
	}
	return &rig{Host: h, t: t, store: store}
}

// fresh is one with so many connections, and room for all.
func fresh(t *testing.T, conns int) *rig {
	t.Helper()
	r := made(t, plenty, 4096)
	r.connects(conns)
	return r
}

// connects opens so many connections, of which the numbers are those from 0 on.
func (r *rig) connects(many int) {
	r.t.Helper()
	for i := range many {
		r.connect(i)
	}
}

func (r *rig) connect(want int) {
	r.t.Helper()
	if n, e := r.Connect(); n != want || e != api.OK {
		r.t.Errorf("H2: Connect() = %d, %d, want %d", n, e, want)
	}
}

func (r *rig) hang(conn int) {
	r.t.Helper()
	if e := r.Hang(conn); e != api.OK {
		r.t.Errorf("H2: Hang(%d) = %d", conn, e)
	}
}

// brings feeds bytes as they are.
func (r *rig) brings(conn int, data []byte, picks ...int) {
	r.t.Helper()
	if e := r.Feed(conn, data, picks); e != api.OK {
		r.t.Errorf("H3: Feed(%d, %d bytes) = %d", conn, len(data), e)
	}
}

// sends feeds messages in one piece.
func (r *rig) sends(conn int, list ...api.Message) {
	r.t.Helper()
	r.brings(conn, encoded(r.t, list...))
}

// turns has so many workers have turns, which are told as connection and frame of each.
func (r *rig) turns(workers int, order []int, want ...int) []api.Turn {
	r.t.Helper()
	l, e := r.Turn(workers, order, nil)
	var got []int
	for _, x := range l {
		got = append(got, x.Conn, x.Frame)
	}
	if !slices.Equal(got, want) || e != api.OK {
		r.t.Errorf("H6: Turn(%d, %v) = %v, %d, want (connection, frame) %v", workers, order, l, e, want)
	}
	return l
}

// noTurn holds that nobody is ready.
func (r *rig) noTurn() {
	r.t.Helper()
	if l, e := r.Turn(1, nil, nil); len(l) != 0 || e != api.ErrHostNone {
		r.t.Errorf("H6: Turn with nobody ready = %v, %d", l, e)
	}
}

// drain has turns till nobody is ready: how many there were.
func (r *rig) drain(workers int) int {
	r.t.Helper()
	for many := 0; ; {
		l, e := r.Turn(workers, nil, nil)
		if e == api.ErrHostNone {
			return many
		}
		if e != api.OK || len(l) == 0 {
			r.t.Fatalf("H6: Turn(%d) = %v, %d", workers, l, e)
		}
		many += len(l)
	}
}

// gets is the replies that went out on a connection.
func (r *rig) gets(conn int) []api.Reply {
	r.t.Helper()
	b, e := r.Replies(conn)
	if e != api.OK {
		r.t.Errorf("H9: Replies(%d) = %d", conn, e)
	}
	return decoded(r.t, b)
}

// told holds that just these replies went out on a connection, told as words.
func (r *rig) told(conn int, want string) []api.Reply {
	r.t.Helper()
	l := r.gets(conn)
	if got := words(l); got != want {
		r.t.Errorf("H4: on connection %d went out: %s\nwant: %s", conn, got, want)
	}
	return l
}

// stands holds the status: sessions, connections, bytes, frames.
func (r *rig) stands(sessions, conns, used, frames int) {
	r.t.Helper()
	if got, want := r.Status(), (api.HostStatus{Sessions: sessions, Conns: conns, Used: used, Frames: frames}); got != want {
		r.t.Errorf("H9: Status() = %+v, want %+v", got, want)
	}
}

// words tells replies as words: kind and N of each.
func words(list []api.Reply) string {
	names := [...]string{"none", "opened", "busy", "error", "frame", "picture", "saved", "byte", "closed", "quota"}
	var l []string
	for _, r := range list {
		if r.Kind == api.RepBusy {
			l = append(l, names[r.Kind])
			continue
		}
		l = append(l, fmt.Sprint(names[r.Kind], " ", r.N))
	}
	return strings.Join(l, "; ")
}

func encoded(t *testing.T, list ...api.Message) []byte {
	t.Helper()
	var all []byte
	for _, m := range list {
		b, e := proto.Encode(m)
		if e != api.OK {
			t.Fatalf("proto.Encode of kind %d = %d", m.Kind, e)
		}
		all = append(all, b...)
	}
	return all
}

func decoded(t *testing.T, b []byte) []api.Reply {
	t.Helper()
	l, n, e := proto.DecodeReplies(b)
	if n != len(b) || e != api.OK {
		t.Fatalf("H4: of %d bytes that went out %d are replies, %d", len(b), n, e)
	}
	return l
}

// The messages.
var (
	look   = api.Message{Kind: api.MsgLook}
	save   = api.Message{Kind: api.MsgSave}
	closes = api.Message{Kind: api.MsgClose}
)

func opens(tenant int, name string, rom []byte) api.Message {
	return api.Message{Kind: api.MsgOpen, Tenant: tenant, Name: name, Data: rom}
}

func keys(n int) api.Message { return api.Message{Kind: api.MsgKeys, N: n} }
func runs(n int) api.Message { return api.Message{Kind: api.MsgRun, N: n} }
func peek(n int) api.Message { return api.Message{Kind: api.MsgPeek, N: n} }

// game paints what hangs on the buttons, on a bank of its ROM that is another one all the time, and on what it counts in its RAM, in all banks of it, if it has some.
const game = `org $150
ld sp, $fffe
ld a, $e4
ldh [$ff47], a
ld a, $0a
ld [$0000], a
ld a, 1
ld [$6000], a
loop: ld a, $20
ldh [$ff00], a
ldh a, [$ff00]
ld b, a
ld [$c000], a
ld a, $10
ldh [$ff00], a
ldh a, [$ff00]
ld c, a
ld [$c001], a
ld hl, $c002
inc [hl]
ld a, [hl]
ld [$2100], a
ld a, [$4000]
ld [$c003], a
add a, b
ld [$8001], a
ld a, [hl]
ld [$4000], a
ld a, [$a000]
add a, c
inc a
ld [$a000], a
ld [$8002], a
jr loop
`

// rom is a cartridge of a kind, a ROM's code and a RAM's code, that plays the game; each of its banks has bytes of its own.
func rom(t *testing.T, kind, code, ramCode byte) []byte {
	t.Helper()
	image, _, e := asm.Assemble(game)
	if e != api.OK {
		t.Fatalf("the game is not assembled: %d", e)
	}
	b := make([]byte, 32768<<code)
	for i := range b {
		b[i] = byte(i*7 + i>>8 + 61*(i>>14))
	}
	copy(b[0x100:], []byte{0, 0xc3, 0x50, 0x01})
	copy(b[image.Org:], image.Code)
	clear(b[0x134:0x150])
	b[0x147], b[0x148], b[0x149] = kind, code, ramCode
	return sealed(b)
}

// sealed has the mark and the sum set right.
func sealed(b []byte) []byte {
	for i := range 48 {
		b[0x104+i] = byte(7*i*i + 13*i + 206)
	}
	sum := byte(231)
	for _, x := range b[0x134:0x14d] {
		sum -= x
	}
	b[0x14d] = sum
	return b
}

// idle is a cartridge that does nothing; a frame of it has 70224 clocks.
func idle() []byte {
	b := make([]byte, 32768)
	copy(b[0x100:], []byte{24, 254})
	return sealed(b)
}

// uneven is one whose frames have 70228, 70220, 70232, 70220 .. clocks.
func uneven() []byte {
	b := make([]byte, 32768)
	copy(b[0x100:], []byte{62, 1, 24, 252})
	return sealed(b)
}

// broken is a cartridge that Check refuses.
func broken() []byte {
	b := idle()
	b[270]++
	return b
}

// counts is a cartridge with a battery, that counts in its RAM without end.
func counts() []byte {
	b := make([]byte, 32768)
	copy(b[0x100:], []byte{0xc3, 0x50, 0x01})
	copy(b[0x150:], []byte{0x3e, 0x0a, 0xea, 0, 0, 0xfa, 0, 0xa0, 0x3c, 0xea, 0, 0xa0, 0xe0, 0x47, 0x18, 0xf5})
	b[0x147], b[0x149] = 3, 2
	return sealed(b)
}

func consoleOf(t *testing.T, rom, save []byte) *console.Console {
	t.Helper()
	c, e := console.New(rom, save)
	if e != api.OK {
		t.Fatalf("console.New = %d", e)
	}
	return c
}

// stored is a picture as it is to be stored.
func stored(pixels []byte) []byte {
	var b []byte
	for p := range slices.Chunk(pixels, 4) {
		b = append(b, p[0]*64+p[1]*16+p[2]*4+p[3])
	}
	return b
}

// pictured is what a frame of a console shows, as it is to be stored, and its check sum.
func pictured(t *testing.T, c *console.Console, buttons int) ([]byte, int) {
	t.Helper()
	f, e := c.Frame(buttons)
	if e != api.OK {
		t.Fatalf("console.Frame(%d) = %d", buttons, e)
	}
	b := stored(f.Pixels)
	return b, int(crc32.ChecksumIEEE(b))
}

// roomy is a list with spare room, all of it filled.
func roomy[T any](list []T, filling T) []T {
	return append(slices.Clone(list), slices.Repeat([]T{filling}, 64)...)[:len(list)]
}

// spared tells whether a roomy list is as it was, its room too.
func spared[T comparable](list, was []T, filling T) bool {
	return slices.Equal(list, was) && slices.Equal(list[len(list):len(list)+64], slices.Repeat([]T{filling}, 64))
}

// scratch writes over a list and its spare room.
func scratch[T any](list []T, x T) {
	whole := list[:cap(list)]
	for i := range whole {
		whole[i] = x
	}
}

// same holds two lists of bytes against each other.
func same(t *testing.T, which string, got, want []byte) {
	t.Helper()
	if !bytes.Equal(got, want) {
		t.Errorf("%s: %d bytes are not those that are asked for, %d", which, len(got), len(want))
	}
}
