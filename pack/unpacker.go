package pack

import "arcade/api"

// Unpacker unpacks bytes that come in pieces. It reads part by part: each has a step that is done when it is whole, and that says what the next part is.
type Unpacker struct {
	part  []byte // as much of it as has come
	needs int    // how many bytes it has
	step  func(u *Unpacker, part []byte) api.Errno

	size  int    // of the block that is read, unpacked
	past  []byte // of what has come as much as matches may reach
	fresh []byte // what has come and was not told yet
	many  int    // bytes that have come
	sum   uint32 // of them
	ended bool
	wrong api.Errno
}

// NewUnpacker makes one.
func NewUnpacker() *Unpacker {
	u := &Unpacker{}
	u.awaits(1, (*Unpacker).readMark)
	return u
}

// Write takes some: it gives the bytes of the blocks that are whole.
func (u *Unpacker) Write(data []byte) ([]byte, api.Errno) {
	for u.wrong == api.OK {
		taken := min(u.needs-len(u.part), len(data))
		u.part = append(u.part, data[:taken]...)
		data = data[taken:]
		if len(u.part) < u.needs {
			break
		}
		u.wrong = u.step(u, u.part)
		u.part = u.part[:0]
	}
	if u.wrong != api.OK {
		u.part, u.past = nil, nil
	}
	fresh := u.fresh
	u.fresh = nil
	return fresh, u.wrong
}

// Done tells whether the end has come, and nothing was wrong.
func (u *Unpacker) Done() bool {
	return u.ended && u.wrong == api.OK
}

// awaits says what the next part is.
func (u *Unpacker) awaits(bytes int, step func(u *Unpacker, part []byte) api.Errno) {
	u.needs, u.step = bytes, step
}

func (u *Unpacker) readMark(part []byte) api.Errno {
	if part[0] != packedMark {
		return api.ErrPackHead
	}
	u.awaits(1, (*Unpacker).readVersion)
	return api.OK
}

func (u *Unpacker) readVersion(part []byte) api.Errno {
	if part[0] != version {
		return api.ErrPackHead
	}
	u.awaits(1, (*Unpacker).readKind)
	return api.OK
}

func (u *Unpacker) readKind(part []byte) api.Errno {
	switch part[0] {
	case kindStored:
		u.awaits(lengthWidth, (*Unpacker).readStoredSize)
	case kindCoded:
		u.awaits(lengthWidth, (*Unpacker).readCodedSize)
	case kindEnd:
		u.awaits(sumWidth, (*Unpacker).readSum)
	default:
		return api.ErrPackBlock
	}
	return api.OK
}

func (u *Unpacker) readStoredSize(part []byte) api.Errno {
	u.awaits(numberOf(part), (*Unpacker).readStored)
	return u.setSize(numberOf(part))
}

func (u *Unpacker) readCodedSize(part []byte) api.Errno {
	u.awaits(lengthWidth, (*Unpacker).readBodySize)
	return u.setSize(numberOf(part))
}

// setSize says how many bytes come of the block, if it may have so many.
func (u *Unpacker) setSize(n int) api.Errno {
	if n < 1 || n > api.MaxBlock {
		return api.ErrPackBlock
	}
	if n > api.MaxUnpacked-u.many {
		return api.ErrPackLong
	}
	u.size = n
	return api.OK
}

func (u *Unpacker) readBodySize(part []byte) api.Errno {
	u.awaits(numberOf(part), (*Unpacker).readCoded)
	return api.OK
}

func (u *Unpacker) readStored(part []byte) api.Errno {
	u.takeBlock(append(u.past, part...))
	return api.OK
}

func (u *Unpacker) readCoded(part []byte) api.Errno {
	past, e := decoded(u.past, u.size, part)
	if e != api.OK {
		return e
	}
	u.takeBlock(past)
	return api.OK
}

// takeBlock has the bytes of a block that is whole; they stand behind what was there ahead of them.
func (u *Unpacker) takeBlock(past []byte) {
	block := past[len(past)-u.size:]
	u.fresh = append(u.fresh, block...)
	u.many += u.size
	u.sum = sumBehind(u.sum, block)
	reach := min(len(past), api.MaxBack)
	u.past = append(past[:0], past[len(past)-reach:]...)
	u.awaits(1, (*Unpacker).readKind)
}

func (u *Unpacker) readSum(part []byte) api.Errno {
	if numberOf(part) != int(u.sum) {
		return api.ErrPackSum
	}
	u.ended, u.past = true, nil
	u.awaits(1, (*Unpacker).readMore)
	return api.OK
}

// readMore comes only if there is a byte behind the end.
func (u *Unpacker) readMore(part []byte) api.Errno {
	return api.ErrPackMore
}
