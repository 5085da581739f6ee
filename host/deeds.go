package host

import "arcade/api"

// settle does what waits on a connection, from the front on, till a Run goes on.
func (h *Host) settle(c *connection, p *picker) {
	for !c.runs() {
		d, some := c.waits.take()
		if !some {
			return
		}
		h.do(c, d, p)
	}
}

func (h *Host) do(c *connection, d deed, p *picker) {
	opens := d.message.Kind == api.MsgOpen
	switch {
	case d.fault != api.OK:
		h.finish(c)
		c.refuse(d.fault)
	case opens && c.session != nil, !opens && c.session == nil:
		c.refuse(api.ErrHostKind)
	case opens:
		h.open(c, d.message, p)
	default:
		h.serve(c, d.message)
	}
}

// serve does a message that a session is asked.
func (h *Host) serve(c *connection, m api.Message) {
	s := c.session
	switch m.Kind {
	case api.MsgKeys:
		s.buttons = m.N
	case api.MsgRun:
		s.left = m.N
		h.round.Ready(c.number, true)
	case api.MsgLook:
		c.reply(api.Reply{Kind: api.RepPicture, N: s.frames, Data: h.picture(s)})
	case api.MsgSave:
		c.reply(h.save(s))
	case api.MsgPeek:
		value, _ := s.console.Peek(m.N)
		c.reply(api.Reply{Kind: api.RepByte, N: value})
	case api.MsgClose:
		h.finish(c)
		c.reply(api.Reply{Kind: api.RepClosed, N: s.frames})
	}
}

// save keeps what the session's battery keeps: the reply.
func (h *Host) save(s *session) api.Reply {
	data := s.console.Save()
	if len(data) == 0 {
		return refusal(api.ErrSaveNone)
	}
	if e := h.saves.Put(s.tenant, s.name, data); e != api.OK {
		return refusal(e)
	}
	return api.Reply{Kind: api.RepSaved, N: len(data)}
}

// finish ends the connection's session, if there is one.
func (h *Host) finish(c *connection) {
	if c.session == nil {
		return
	}
	h.pool.Close(c.session.arena)
	h.round.Remove(c.number)
	c.session = nil
}
