package saves

import (
	"bytes"

	"arcade/api"
)

// Where the fields of a head begin, and where the last one ends.
const (
	atUsed    = 0
	atMark    = 1
	atTenant  = 2
	atLength  = 3
	atName    = 4
	atVersion = 20
	atSize    = 24
	atSum     = 28
	atFirst   = 32
	atEnd     = 34
)

const (
	notUsed = 0
	inUse   = 1
	mark    = 83
)

const lastVersion = 4294967295

// head is what a head that is used tells of its save.
type head struct {
	name    string
	version int
	size    int
	sum     int
	first   int // its first data sector; 0, if it has none
}

// sector is the head as it stands on the store.
func (h head) sector(tenant int) []byte {
	b := make([]byte, api.SectorSize)
	b[atUsed] = inUse
	b[atMark] = mark
	b[atTenant] = byte(tenant)
	b[atLength] = byte(len(h.name))
	copy(b[atName:atVersion], h.name)
	setNumber(b[atVersion:atSize], h.version)
	setNumber(b[atSize:atSum], h.size)
	setNumber(b[atSum:atFirst], h.sum)
	setNumber(b[atFirst:atEnd], h.first)
	return b
}

// headOf reads a head. It is told as one only if this program would have written it so, to the byte.
func headOf(b []byte, tenant int) (head, bool) {
	end := atName + int(b[atLength])
	if end > atVersion {
		return head{}, false
	}
	h := head{
		name:    string(b[atName:end]),
		version: numberOf(b[atVersion:atSize]),
		size:    numberOf(b[atSize:atSum]),
		sum:     numberOf(b[atSum:atFirst]),
		first:   numberOf(b[atFirst:atEnd]),
	}
	if !isName(h.name) || h.version == 0 || h.size > api.MaxSave || !bytes.Equal(b, h.sector(tenant)) {
		return head{}, false
	}
	return h, true
}

func isName(name string) bool {
	if len(name) < 1 || len(name) > api.MaxSaveName {
		return false
	}
	for i := range len(name) {
		if !isLetter(name[i]) {
			return false
		}
	}
	return true
}

func isLetter(x byte) bool {
	return x >= 'a' && x <= 'z' || x >= '0' && x <= '9' || x == '-' || x == '_'
}
