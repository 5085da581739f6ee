package proto

import "arcade/api"

// decode reads frames from the front on, till one is not whole, or wrong: what they tell, how many bytes they have, and what is wrong with the next one.
func decode[T any](data []byte, kinds []kind, made func(content) T) ([]T, int, api.Errno) {
	var list []T
	read := 0
	for {
		frame, e := first(data[read:])
		if e != api.OK || len(frame) == 0 {
			return list, read, e
		}
		c, e := contentOf(frame, kinds)
		if e != api.OK {
			return list, read, e
		}
		list = append(list, made(c))
		read += longWidth + len(frame)
	}
}

// first is the first frame, behind its length; empty, if it is not whole. No frame that may be is empty.
func first(data []byte) ([]byte, api.Errno) {
	if len(data) < longWidth {
		return nil, api.OK
	}
	long := numberOf(data[:longWidth])
	if long < 1 || long > api.MaxFrame {
		return nil, api.ErrProtoLength
	}
	rest := data[longWidth:]
	if len(rest) < long {
		return nil, api.OK
	}
	return rest[:long], api.OK
}

// contentOf is what a frame tells, or what is wrong with it.
func contentOf(frame []byte, kinds []kind) (content, api.Errno) {
	var c content
	e := attempt(func() { c = readContent(&reader{left: frame}, kinds) })
	return c, e
}

// readContent reads a frame. It gives up where something is wrong.
func readContent(r *reader, kinds []kind) content {
	c := content{kind: r.number(byteWidth).number}
	parts, ok := partsOf(kinds, c.kind)
	if !ok {
		giveUp(api.ErrProtoKind)
	}
	for _, p := range parts {
		v := p.read(r, p.width)
		if !p.fits(v) {
			giveUp(api.ErrProtoField)
		}
		*p.field(&c) = v
	}
	r.end()
	return c
}

// encode writes a frame.
func encode(c content, kinds []kind) ([]byte, api.Errno) {
	parts, ok := partsOf(kinds, c.kind)
	if !ok {
		return nil, api.ErrProtoKind
	}
	body := withNumber(nil, c.kind, byteWidth)
	for _, p := range parts {
		field := p.field(&c)
		if !p.fits(*field) {
			return nil, api.ErrProtoField
		}
		body = append(withNumber(body, field.number, p.width), field.bytes...)
		*field = value{} // so that in the end all is empty, but for what the kind does not have
	}
	if !c.isEmpty() {
		return nil, api.ErrProtoField
	}
	return append(withNumber(nil, len(body), longWidth), body...), api.OK
}
