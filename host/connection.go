package host

import (
	"arcade/api"
	"arcade/proto"
)

// connection is a way between a client and the host.
type connection struct {
	number  int
	decoder *proto.Decoder
	waits   queue[deed]
	out     []byte   // what went out, and was not told yet
	session *session // nil: none
}

// deed is what is to be done: a message, or the break, which is one with a fault.
type deed struct {
	message api.Message
	fault   api.Errno
}

// connected is one on which nothing has come.
func connected(number int) *connection {
	return &connection{number: number, decoder: proto.NewDecoder()}
}

// receive lets wait what has come whole with these bytes.
func (c *connection) receive(data []byte) {
	if c.decoder.Poisoned() { // it would answer an error once more, and there is one break alone
		return
	}
	messages, fault := c.decoder.Feed(data)
	for _, m := range messages {
		c.waits.put(deed{message: m})
	}
	if fault != api.OK {
		c.waits.put(deed{fault: fault})
	}
}

// runs tells whether a Run goes on.
func (c *connection) runs() bool {
	return c.session != nil && c.session.left > 0
}

// reply lets a reply go out.
func (c *connection) reply(r api.Reply) {
	b, _ := proto.EncodeReply(r) // all that is told is within its bounds
	c.out = append(c.out, b...)
}

// refuse replies an error.
func (c *connection) refuse(e api.Errno) {
	c.reply(refusal(e))
}

func refusal(e api.Errno) api.Reply {
	return api.Reply{Kind: api.RepError, N: int(e)}
}
