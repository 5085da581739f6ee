package host_test

import (
	"hash/crc32"

	"arcade/api"
	"arcade/block"
	"arcade/cart"
	"arcade/console"
	"arcade/proto"
	"arcade/saves"
)

// hosts is what both a host and its model do.
type hosts interface {
	Connect() (int, api.Errno)
	Feed(conn int, data []byte, picks []int) api.Errno
	Hang(conn int) api.Errno
	Turn(workers int, order []int, picks []int) ([]api.Turn, api.Errno)
	Replies(conn int) ([]byte, api.Errno)
	Status() api.HostStatus
	Crash(picks []int) ([]byte, api.Errno)
}

// model is a second host without buffers, arenas, round or goroutines: of buffers it knows how many are free, and of each session when it went to the round's end.
type model struct {
	c       api.HostConfig
	store   *block.Store
	saves   *saves.Saves
	clients map[int]*client
	free    []int // by their classes
	clock   int
	frames  int
	dead    bool
}

// client is a connection, and what it is at.
type client struct {
	decoder *proto.Decoder
	gone    bool // the decoder has answered an error
	todo    []func(c *client)
	out     []byte
	play    *play
}

// play is a session.
type play struct {
	machine *console.Console
	tenant  int
	name    string
	needs   []int // by their classes
	since   int
	buttons int
	frames  int
	clocks  int
	todo    int
	picture []byte
}

func modelOf(c api.HostConfig, store *block.Store) *model {
	s, _ := saves.Open(store)
	m := &model{c: c, store: store, saves: s, clients: map[int]*client{}}
	for _, x := range c.Pool.Classes {
		m.free = append(m.free, x.Many)
	}
	return m
}

func (m *model) fault(conn int) api.Errno {
	if m.dead {
		return api.ErrHostDead
	}
	if m.clients[conn] == nil {
		return api.ErrHostConn
	}
	return api.OK
}

func (m *model) Connect() (int, api.Errno) {
	if m.dead {
		return 0, api.ErrHostDead
	}
	for n := range 128 {
		if m.clients[n] == nil {
			m.clients[n] = &client{decoder: proto.NewDecoder()}
			return n, api.OK
		}
	}
	return 0, api.ErrHostFull
}

func (m *model) Hang(conn int) api.Errno {
	if e := m.fault(conn); e != api.OK {
		return e
	}
	m.over(m.clients[conn])
	delete(m.clients, conn)
	return api.OK
}

func (m *model) Feed(conn int, data []byte, picks []int) api.Errno {
	if e := m.fault(conn); e != api.OK {
		return e
	}
	c := m.clients[conn]
	if c.gone {
		return api.OK
	}
	list, e := c.decoder.Feed(data)
	for _, x := range list {
		c.todo = append(c.todo, func(c *client) { m.message(c, x) })
	}
	if e != api.OK {
		c.gone = true
		c.todo = append(c.todo, func(c *client) {
			m.over(c)
			c.says(api.RepError, int(e))
		})
	}
	m.goOn(c)
	return api.OK
}

func (m *model) goOn(c *client) {
	for len(c.todo) > 0 && (c.play == nil || c.play.todo == 0) {
		next := c.todo[0]
		c.todo = c.todo[1:]
		next(c)
	}
}

func (c *client) says(kind, n int) { c.saysAll(api.Reply{Kind: kind, N: n}) }

func (c *client) saysAll(r api.Reply) {
	b, e := proto.EncodeReply(r)
	if e != api.OK {
		panic("a reply that may not be")
	}
	c.out = append(c.out, b...)
}

func (m *model) message(c *client, x api.Message) {
	p := c.play
	if (p == nil) != (x.Kind == api.MsgOpen) {
		c.says(api.RepError, 144)
		return
	}
	switch x.Kind {
	case api.MsgOpen:
		m.open(c, x)
	case api.MsgKeys:
		p.buttons = x.N
	case api.MsgRun:
		p.todo = x.N
	case api.MsgLook:
		c.saysAll(api.Reply{Kind: api.RepPicture, N: p.frames, Data: p.picture})
	case api.MsgPeek:
		v, _ := p.machine.Peek(x.N)
		c.says(api.RepByte, v)
	case api.MsgClose:
		m.over(c)
		c.says(api.RepClosed, p.frames)
	case api.MsgSave:
		b := p.machine.Save()
		if len(b) == 0 {
			c.says(api.RepError, 111)
		} else if e := m.saves.Put(p.tenant, p.name, b); e != api.OK {
			c.says(api.RepError, int(e))
		} else {
			c.says(api.RepSaved, len(b))
		}
	}
}

func (m *model) open(c *client, x api.Message) {
	h, e := cart.Check(x.Data)
	if e != api.OK {
		c.says(api.RepError, int(e))
		return
	}
	needs := make([]int, len(m.free))
	bytes := 0
	ask := func(size int) bool {
		for i, k := range m.c.Pool.Classes {
			if k.Size >= size {
				needs[i]++
				bytes += k.Size
				return true
			}
		}
		return false
	}
	fits := ask(5760)
	for range h.Banks {
		fits = ask(16384) && fits
	}
	for ram := h.Ram; ram > 0; ram -= 8192 {
		fits = ask(8192) && fits
	}
	if !fits || bytes > m.c.Bytes {
		e = api.ErrHostBytes
		if !fits {
			e = api.ErrArenaSize
		}
		c.says(api.RepError, int(e))
		return
	}
	busy := m.Status().Sessions >= m.c.Sessions || m.Status().Sessions >= m.c.Pool.Arenas
	for i, n := range needs {
		busy = busy || n > m.free[i]
	}
	if busy {
		c.saysAll(api.Reply{Kind: api.RepBusy})
		return
	}
	m.play(c, x, h.Battery, needs)
}

func (m *model) play(c *client, x api.Message, battery bool, needs []int) {
	var save []byte
	if battery {
		b, e := m.saves.Get(x.Tenant, x.Name)
		if e != api.OK && e != api.ErrSaveNone {
			c.says(api.RepError, int(e))
			return
		}
		save = b
	}
	machine, e := console.New(x.Data, save)
	if e != api.OK {
		c.says(api.RepError, int(e))
		return
	}
	for i, n := range needs {
		m.free[i] -= n
	}
	m.clock++
	c.play = &play{machine: machine, tenant: x.Tenant, name: x.Name, needs: needs, since: m.clock, picture: make([]byte, 5760)}
	c.says(api.RepOpened, len(save))
}

func (m *model) over(c *client) {
	if c.play == nil {
		return
	}
	for i, n := range c.play.needs {
		m.free[i] += n
	}
	c.play = nil
}

func (m *model) Turn(workers int, order []int, picks []int) ([]api.Turn, api.Errno) {
	if m.dead {
		return nil, api.ErrHostDead
	}
	if workers < 1 || workers > m.c.Workers {
		return nil, api.ErrArg
	}
	var begun []int
	for range workers {
		next := -1
		for n, c := range m.clients {
			if c.play == nil || c.play.todo == 0 {
				continue
			}
			already := false
			for _, other := range begun {
				already = already || other == n
			}
			if !already && (next < 0 || c.play.since < m.clients[next].play.since) {
				next = n
			}
		}
		if next < 0 {
			break
		}
		m.clock++
		m.clients[next].play.since = m.clock
		begun = append(begun, next)
	}
	if len(begun) == 0 {
		return nil, api.ErrHostNone
	}
	var l []api.Turn
	for _, at := range ending(len(begun), order) {
		l = append(l, m.frame(begun[at]))
	}
	return l, api.OK
}

// frame has a frame of its own run just when its turn ends: nobody is to see whether it was run ahead of that.
func (m *model) frame(conn int) api.Turn {
	c := m.clients[conn]
	p := c.play
	f, _ := p.machine.Frame(p.buttons)
	m.frames++
	p.frames++
	p.todo--
	p.clocks += f.Clocks
	p.picture = stored(f.Pixels)
	c.saysAll(api.Reply{Kind: api.RepFrame, N: p.frames, M: int(crc32.ChecksumIEEE(p.picture))})
	last := p.clocks >= m.c.Life
	if last {
		m.over(c)
		c.says(api.RepQuota, p.frames)
	}
	m.goOn(c)
	return api.Turn{Conn: conn, Frame: p.frames, Clocks: f.Clocks, Last: last}
}

func (m *model) Replies(conn int) ([]byte, api.Errno) {
	if e := m.fault(conn); e != api.OK {
		return nil, e
	}
	c := m.clients[conn]
	out := c.out
	c.out = nil
	return out, api.OK
}

func (m *model) Status() api.HostStatus {
	if m.dead {
		return api.HostStatus{}
	}
	s := api.HostStatus{Conns: len(m.clients), Frames: m.frames}
	for _, c := range m.clients {
		if c.play != nil {
			s.Sessions++
			for i, n := range c.play.needs {
				s.Used += n * m.c.Pool.Classes[i].Size
			}
		}
	}
	return s
}

func (m *model) Crash(picks []int) ([]byte, api.Errno) {
	if m.dead {
		return nil, api.ErrHostDead
	}
	m.dead = true
	return m.store.Crash(picks), api.OK
}
