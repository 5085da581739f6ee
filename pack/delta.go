package pack

import (
	"slices"

	"arcade/api"
)

// What a delta begins with.
const deltaMark = 68

// How many bytes stand ahead of what is packed: the mark, the version, and the sum of the old bytes.
const deltaHead = 2 + sumWidth

// Delta packs what has changed.
func Delta(old []byte, fresh []byte) ([]byte, api.Errno) {
	if max(len(old), len(fresh)) > api.MaxUnpacked {
		return nil, api.ErrPackLong
	}
	packed, _ := Pack(xored(fresh, old)) // it has no more bytes than fresh
	return append(withNumber([]byte{deltaMark, version}, Sum(old), sumWidth), packed...), api.OK
}

// Apply makes it so.
func Apply(old []byte, delta []byte) ([]byte, api.Errno) {
	if len(old) > api.MaxUnpacked {
		return nil, api.ErrPackLong
	}
	if len(delta) < deltaHead {
		return nil, api.ErrPackShort
	}
	if delta[0] != deltaMark || delta[1] != version {
		return nil, api.ErrPackHead
	}
	if numberOf(delta[2:deltaHead]) != Sum(old) {
		return nil, api.ErrPackBase
	}
	changed, e := Unpack(delta[deltaHead:])
	if e != api.OK {
		return nil, e
	}
	return xored(changed, old), api.OK
}

// xored is bytes, each xored with the other one at its place, if there is one.
func xored(data, other []byte) []byte {
	list := slices.Clone(data)
	for i := range min(len(data), len(other)) {
		list[i] ^= other[i]
	}
	return list
}
