package proto_test

import (
	"slices"
	"strings"

	"arcade/api"
)

// wrong is bytes with the last one of which something is wrong, and not ahead of it.
type wrong struct {
	bytes []byte
	why   api.Errno
}

// wrongLengths are lengths of frames that may not be, whatever is to follow.
func wrongLengths() []wrong {
	var list []wrong
	for _, n := range []int{0, 262401, 262402, 1 << 19, 1<<24 + 1, 1 << 24, 1 << 31, 1<<31 + 1, 4294967295, 255 << 24} {
		list = append(list, wrong{long(n), api.ErrProtoLength})
	}
	return list
}

// wrongKinds are frames of kinds that are not; whatever else is wrong with them is not told.
func wrongKinds(first int) []wrong {
	var list []wrong
	for _, kind := range append([]int{0, 128, 255}, first, first+1, first+16) {
		for _, body := range [][]byte{nil, {0}, {1, 2}, text(40, 1)} {
			list = append(list, wrong{frame(byte(kind), body), api.ErrProtoKind})
		}
	}
	return list
}

// wrongMessages are frames with one thing that is wrong, or several, of which the first is told.
func wrongMessages() []wrong {
	list := slices.Concat(wrongLengths(), wrongKinds(8), wrongOpens())
	add := func(why api.Errno, kind byte, body ...[]byte) {
		list = append(list, wrong{frame(kind, body...), why})
	}
	add(api.ErrProtoLength, 2)
	add(api.ErrProtoLength, 2, []byte{0, 0})
	add(api.ErrProtoLength, 2, []byte{255, 255})
	for _, kind := range []byte{3, 6} {
		add(api.ErrProtoLength, kind)
		add(api.ErrProtoLength, kind, []byte{0})
		add(api.ErrProtoLength, kind, []byte{1})
		add(api.ErrProtoLength, kind, word(5), []byte{0})
		add(api.ErrProtoLength, kind, word(600), text(300, 1))
	}
	for _, n := range []int{0, 601, 602, 856, 65535, 32768} {
		add(api.ErrProtoField, 3, word(n))
		add(api.ErrProtoField, 3, word(n), []byte{5}) // ahead of what is left
	}
	for _, kind := range []byte{4, 5, 7} {
		add(api.ErrProtoLength, kind, []byte{0})
		add(api.ErrProtoLength, kind, []byte{kind})
		add(api.ErrProtoLength, kind, text(1000, 1))
	}
	return list
}

// wrongOpens are such frames of Opens, part by part.
func wrongOpens() []wrong {
	var list []wrong
	add := func(why api.Errno, body ...[]byte) {
		list = append(list, wrong{frame(1, body...), why})
	}
	add(api.ErrProtoLength)
	for _, tenant := range []byte{0, 9, 10, 128, 255} {
		add(api.ErrProtoField, []byte{tenant})         // ahead of the name that is not there
		add(api.ErrProtoField, []byte{tenant, 0})      // and of one that may not be
		add(api.ErrProtoField, []byte{tenant, 5, 'a'}) // and of one that goes beyond
		add(api.ErrProtoField, opening(int(tenant), "a", nil)[5:])
		add(api.ErrProtoField, opening(int(tenant), "a", nil)[5:], []byte{1})
	}
	add(api.ErrProtoLength, []byte{1})
	add(api.ErrProtoLength, []byte{8})
	for _, n := range []byte{1, 2, 16, 17, 255} { // beyond, ahead of its bounds and of its bytes
		add(api.ErrProtoLength, []byte{1, n})
		add(api.ErrProtoLength, []byte{1, n}, []byte(strings.Repeat("A", int(n)-1)))
	}
	for _, name := range []string{"", strings.Repeat("a", 17), strings.Repeat("a", 18), strings.Repeat("a", 255), "A", "a b", "ab/", "\x00", strings.Repeat("a", 15) + "A", "ä", "\xff\xfe"} {
		start := append([]byte{1, byte(len(name))}, name...)
		add(api.ErrProtoField, start)                      // ahead of the data that are not there
		add(api.ErrProtoField, start, []byte{0, 0})        // and of half their length
		add(api.ErrProtoField, start, long(5), text(4, 1)) // and of those that go beyond
		add(api.ErrProtoField, start, long(0))
		add(api.ErrProtoField, start, long(0), []byte{1})
	}
	start := []byte{1, 1, 'a'}
	for n := range 4 { // the length alone
		add(api.ErrProtoLength, start, make([]byte, n))
		add(api.ErrProtoLength, start, []byte{255, 255, 255, 255}[:n])
	}
	for _, n := range []int{1, 2, 256, 262144, 262145, 1 << 31, 4294967295} { // with its bytes
		add(api.ErrProtoLength, start, long(n))
		add(api.ErrProtoLength, start, long(n), text(min(n-1, 300), 1))
	}
	add(api.ErrProtoLength, start, long(0), []byte{0})
	add(api.ErrProtoLength, start, long(3), text(4, 1))
	return list
}

// wrongGreat are wrong frames of very many bytes.
func wrongGreat() []wrong {
	start := []byte{1, 1, 'a'}
	return []wrong{
		{frame(1, start, long(262145), text(262144, 1)), api.ErrProtoLength},
		{frame(1, start, long(262145), text(262145, 1)), api.ErrProtoField},
		{frame(1, start, long(262145), text(262146, 1)), api.ErrProtoField},
		{frame(1, start, long(262392), text(262392, 1)), api.ErrProtoField},
		{frame(1, start, long(262393), text(262392, 1)), api.ErrProtoLength},
		{frame(1, start, long(262144), text(262145, 1)), api.ErrProtoLength},
		{frame(4, text(262399, 1)), api.ErrProtoLength},
		{frame(0, text(262399, 1)), api.ErrProtoKind},
	}
}

// wrongReplies are such frames of replies.
func wrongReplies() []wrong {
	list := slices.Concat(wrongLengths(), wrongKinds(10), wrongPictures())
	add := func(why api.Errno, kind byte, body ...[]byte) {
		list = append(list, wrong{frame(kind, body...), why})
	}
	for _, kind := range []byte{1, 6} {
		for _, n := range []int{131073, 131074, 1 << 18, 1 << 24, 1 << 31, 4294967295} {
			add(api.ErrProtoField, kind, long(n))
			add(api.ErrProtoField, kind, long(n), []byte{0})
		}
	}
	for _, kind := range []byte{1, 6, 8, 9} {
		for n := range 4 {
			add(api.ErrProtoLength, kind, []byte{255, 255, 255, 255}[:n])
		}
		add(api.ErrProtoLength, kind, long(5), []byte{0})
		add(api.ErrProtoLength, kind, long(5), long(5))
	}
	add(api.ErrProtoLength, 2, []byte{0})
	add(api.ErrProtoLength, 3)
	add(api.ErrProtoLength, 3, []byte{0})
	add(api.ErrProtoLength, 3, word(1), []byte{0})
	add(api.ErrProtoField, 3, word(0))
	add(api.ErrProtoField, 3, word(0), []byte{0})
	for n := range 8 {
		add(api.ErrProtoLength, 4, text(n, 1))
	}
	add(api.ErrProtoLength, 4, long(1), long(1), []byte{0})
	add(api.ErrProtoLength, 7)
	add(api.ErrProtoLength, 7, []byte{0, 0})
	return list
}

// wrongPictures are such frames of pictures.
func wrongPictures() []wrong {
	var list []wrong
	add := func(why api.Errno, body ...[]byte) {
		list = append(list, wrong{frame(5, body...), why})
	}
	for n := range 8 {
		add(api.ErrProtoLength, make([]byte, n))
		add(api.ErrProtoLength, slices.Repeat([]byte{255}, n))
	}
	for _, n := range []int{1, 300, 5760, 5761, 262144, 4294967295} {
		add(api.ErrProtoLength, long(1), long(n))
		add(api.ErrProtoLength, long(1), long(n), text(min(n-1, 299), 1))
	}
	add(api.ErrProtoLength, long(1), long(5761), text(5760, 1))
	for _, n := range []int{5761, 5762, 6016} {
		add(api.ErrProtoField, long(1), long(n), text(n, 1))
		add(api.ErrProtoField, long(1), long(n), text(n+1, 1))
	}
	add(api.ErrProtoLength, long(1), long(5760), text(5761, 1))
	add(api.ErrProtoLength, long(1), long(0), []byte{0})
	return list
}
