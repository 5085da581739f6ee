package host

import (
	"slices"

	"arcade/api"
	"arcade/cart"
	"arcade/console"
)

// session is a console on a connection.
type session struct {
	tenant  int
	name    string // of its save
	console *console.Console
	arena   int
	picture int // the buffer that it is stored in
	buttons int
	frames  int // that it has had
	life    int // clocks of these
	left    int // frames that are to be run
}

// open does an Open, where there is no session.
func (h *Host) open(c *connection, m api.Message, p *picker) {
	s, reply := h.admit(m, p)
	if s != nil {
		c.session = s
		h.round.Add(c.number)
	}
	c.reply(reply)
}

// admit makes the session that is asked for, if it may be: and the reply.
func (h *Host) admit(m api.Message, p *picker) (*session, api.Reply) {
	header, e := cart.Check(m.Data)
	if e != api.OK {
		return nil, refusal(e)
	}
	classes, e := h.needs(header)
	if e != api.OK {
		return nil, refusal(e)
	}
	if !h.hasRoom(classes) {
		return nil, api.Reply{Kind: api.RepBusy}
	}
	save, e := h.saved(header, m)
	if e != api.OK {
		return nil, refusal(e)
	}
	// Ahead of the first buffer: one that is taken uses up a pick.
	if _, e := console.New(m.Data, save); e != api.OK {
		return nil, refusal(e)
	}
	return h.begin(header, m, save, p), api.Reply{Kind: api.RepOpened, N: len(save)}
}

// needs tells the classes of the buffers that a session of such a cartridge must have.
func (h *Host) needs(header api.Header) ([]int, api.Errno) {
	var classes []int
	bytes := 0
	for _, size := range sizesOf(header) {
		class := slices.IndexFunc(h.config.Pool.Classes, func(c api.Class) bool { return c.Size >= size })
		if class < 0 {
			return nil, api.ErrArenaSize
		}
		classes = append(classes, class)
		bytes += h.config.Pool.Classes[class].Size
	}
	if bytes > h.config.Bytes {
		return nil, api.ErrHostBytes
	}
	return classes, api.OK
}

// sizesOf tells the sizes of these buffers, in the order in which they are taken.
func sizesOf(header api.Header) []int {
	rams := (header.Ram + api.RamSize - 1) / api.RamSize // of mapper 2 a part of one
	sizes := slices.Repeat([]int{api.BankSize}, header.Banks)
	sizes = append(sizes, slices.Repeat([]int{api.RamSize}, rams)...)
	return append(sizes, api.PictureSize)
}

// hasRoom tells whether a session may be open that needs buffers of these classes.
func (h *Host) hasRoom(classes []int) bool {
	// Each session has an arena, and nobody else has one.
	if h.Status().Sessions >= min(h.config.Sessions, h.config.Pool.Arenas) {
		return false
	}
	needed := make([]int, len(h.config.Pool.Classes))
	for _, class := range classes {
		needed[class]++
	}
	for class, many := range needed {
		if len(h.pool.Free(class)) < many {
			return false
		}
	}
	return true
}

// saved is what the cartridge's battery has kept; nothing, if it has none, or there is no such save.
func (h *Host) saved(header api.Header, m api.Message) ([]byte, api.Errno) {
	if !header.Battery {
		return nil, api.OK
	}
	save, e := h.saves.Get(m.Tenant, m.Name)
	if e == api.ErrSaveNone {
		return nil, api.OK
	}
	return save, e
}

// begin makes a session for which there is room, of what may be a console.
func (h *Host) begin(header api.Header, m api.Message, save []byte, p *picker) *session {
	arena, _ := h.pool.Open(h.config.Bytes)
	ram := make([]byte, header.Ram)
	copy(ram, save)
	roms := h.keep(arena, m.Data, api.BankSize, p)
	rams := h.keep(arena, ram, api.RamSize, p)
	picture, _ := h.pool.Take(arena, api.PictureSize, p.next())
	ram = h.fetch(arena, rams)
	if !header.Battery { // RAM that nothing keeps is no save
		ram = nil
	}
	made, _ := console.New(h.fetch(arena, roms), ram)
	return &session{tenant: m.Tenant, name: m.Name, console: made, arena: arena, picture: picture.Buffer}
}
