package proto

import (
	"slices"

	"arcade/api"
)

// How many bytes a number has.
const (
	byteWidth = 1
	wordWidth = 2
	longWidth = 4
)

// The highest number of so many bytes.
const (
	topByte = 1<<8 - 1
	topWord = 1<<16 - 1
	topLong = 1<<32 - 1
)

// kind is a kind of frames: its number, and its parts in their order.
type kind struct {
	number int
	parts  []part
}

// part is one of a kind's parts: which field it is, how it is read, how many bytes its number has (of a list: the number of its bytes), and whether it is within its bounds.
type part struct {
	field func(*content) *value
	read  func(*reader, int) value
	width int
	fits  func(value) bool
}

func messageKinds() []kind {
	return []kind{
		{api.MsgOpen, []part{
			{tenantOf, (*reader).number, byteWidth, between(1, api.MaxTenant)},
			{nameOf, (*reader).list, byteWidth, isName},
			{dataOf, (*reader).list, longWidth, between(0, api.MaxRom)},
		}},
		{api.MsgKeys, []part{{nOf, (*reader).number, byteWidth, between(0, topByte)}}},
		{api.MsgRun, []part{{nOf, (*reader).number, wordWidth, between(1, api.MaxRun)}}},
		{api.MsgLook, nil},
		{api.MsgSave, nil},
		{api.MsgPeek, []part{{nOf, (*reader).number, wordWidth, between(0, topWord)}}},
		{api.MsgClose, nil},
	}
}

func replyKinds() []kind {
	return []kind{
		{api.RepOpened, []part{{nOf, (*reader).number, longWidth, between(0, api.MaxSave)}}},
		{api.RepBusy, nil},
		{api.RepError, []part{{nOf, (*reader).number, wordWidth, between(1, topWord)}}},
		{api.RepFrame, []part{
			{nOf, (*reader).number, longWidth, between(0, topLong)},
			{mOf, (*reader).number, longWidth, between(0, topLong)},
		}},
		{api.RepPicture, []part{
			{nOf, (*reader).number, longWidth, between(0, topLong)},
			{dataOf, (*reader).list, longWidth, between(0, api.MaxReply)},
		}},
		{api.RepSaved, []part{{nOf, (*reader).number, longWidth, between(0, api.MaxSave)}}},
		{api.RepByte, []part{{nOf, (*reader).number, byteWidth, between(0, topByte)}}},
		{api.RepClosed, []part{{nOf, (*reader).number, longWidth, between(0, topLong)}}},
		{api.RepQuota, []part{{nOf, (*reader).number, longWidth, between(0, topLong)}}},
	}
}

// partsOf finds the parts of a kind, if there is such a kind.
func partsOf(kinds []kind, number int) ([]part, bool) {
	i := slices.IndexFunc(kinds, func(k kind) bool { return k.number == number })
	if i < 0 {
		return nil, false
	}
	return kinds[i].parts, true
}

// between is the bounds of a number, or of how many bytes a list has.
func between(low, high int) func(value) bool {
	return func(v value) bool { return v.number >= low && v.number <= high }
}

func isName(v value) bool {
	if v.number < 1 || v.number > api.MaxSaveName {
		return false
	}
	return !slices.ContainsFunc(v.bytes, func(x byte) bool { return !isLetter(x) })
}

func isLetter(x byte) bool {
	return x >= 'a' && x <= 'z' || x >= '0' && x <= '9' || x == '-' || x == '_'
}
