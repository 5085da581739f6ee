package proto_test

import (
	"slices"
	"strings"

	"arcade/api"
)

// A model of the frames, kind by kind: it goes by places in the frame that are reckoned by hand, knows no parts, and copies nothing.

// modelFrames reads all whole frames from the front on.
func modelFrames[T any](b []byte, one func([]byte) (T, api.Errno)) ([]T, int, api.Errno) {
	var list []T
	at := 0
	for len(b)-at >= 4 {
		n := number(b[at : at+4])
		if n == 0 || n > 262400 {
			return list, at, api.ErrProtoLength
		}
		if len(b)-at-4 < n {
			break
		}
		x, e := one(b[at+4 : at+4+n])
		if e != api.OK {
			return list, at, e
		}
		list = append(list, x)
		at += 4 + n
	}
	return list, at, api.OK
}

func number(b []byte) int {
	n := 0
	for _, x := range b {
		n = 256*n + int(x)
	}
	return n
}

func modelMessage(f []byte) (api.Message, api.Errno) {
	m := api.Message{Kind: int(f[0])}
	low, high, end := 0, 0, 1
	switch m.Kind {
	case 1:
		return modelOpen(f)
	case 2:
		high, end = 255, 2
	case 3:
		low, high, end = 1, 600, 3
	case 6:
		high, end = 65535, 3
	case 4, 5, 7:
	default:
		return api.Message{}, api.ErrProtoKind
	}
	if len(f) < end {
		return api.Message{}, api.ErrProtoLength
	}
	m.N = number(f[1:end])
	if m.N < low || m.N > high {
		return api.Message{}, api.ErrProtoField
	}
	if len(f) > end {
		return api.Message{}, api.ErrProtoLength
	}
	return m, api.OK
}

func modelOpen(f []byte) (api.Message, api.Errno) {
	none := api.Message{}
	if len(f) < 2 {
		return none, api.ErrProtoLength
	}
	if f[1] < 1 || f[1] > 8 {
		return none, api.ErrProtoField
	}
	if len(f) < 3 || len(f) < 3+int(f[2]) {
		return none, api.ErrProtoLength
	}
	behind := 3 + int(f[2])
	name := string(f[3:behind])
	if name == "" || len(name) > 16 || strings.Trim(name, letters) != "" || strings.ContainsFunc(name, notLetter) {
		return none, api.ErrProtoField
	}
	if len(f) < behind+4 || len(f) < behind+4+number(f[behind:behind+4]) {
		return none, api.ErrProtoLength
	}
	size := number(f[behind : behind+4])
	if size > 262144 {
		return none, api.ErrProtoField
	}
	if len(f) > behind+4+size {
		return none, api.ErrProtoLength
	}
	return api.Message{Kind: 1, Tenant: int(f[1]), Name: name, Data: f[behind+4:]}, api.OK
}

func notLetter(x rune) bool {
	return !strings.ContainsRune(letters, x)
}

func modelReply(f []byte) (api.Reply, api.Errno) {
	none := api.Reply{}
	kind := int(f[0])
	if kind < 1 || kind > 9 {
		return none, api.ErrProtoKind
	}
	first := []int{0, 4, 0, 2, 4, 4, 4, 1, 4, 4}[kind]
	if len(f) < 1+first {
		return none, api.ErrProtoLength
	}
	r := api.Reply{Kind: kind, N: number(f[1 : 1+first])}
	if (kind == 1 || kind == 6) && r.N > 131072 || kind == 3 && r.N == 0 {
		return none, api.ErrProtoField
	}
	rest := f[1+first:]
	if kind == 4 || kind == 5 {
		if len(rest) < 4 {
			return none, api.ErrProtoLength
		}
		r.M, rest = number(rest[:4]), rest[4:]
	}
	if kind == 5 {
		if len(rest) < r.M {
			return none, api.ErrProtoLength
		}
		if r.M > 5760 {
			return none, api.ErrProtoField
		}
		r.Data, rest, r.M = rest[:r.M], rest[r.M:], 0
	}
	if len(rest) > 0 {
		return none, api.ErrProtoLength
	}
	return r, api.OK
}

// modelMay tells whether a message may be encoded, and if not why.
func modelMay(m api.Message) api.Errno {
	if m.Kind < 1 || m.Kind > 7 {
		return api.ErrProtoKind
	}
	ok := m.Tenant == 0 && m.Name == "" && len(m.Data) == 0
	switch m.Kind {
	case 1:
		ok = m.Tenant >= 1 && m.Tenant <= 8 && len(m.Name) >= 1 && len(m.Name) <= 16 && !strings.ContainsFunc(m.Name, notLetter) && len(m.Data) <= 262144 && m.N == 0
	case 2:
		ok = ok && m.N >= 0 && m.N <= 255
	case 3:
		ok = ok && m.N >= 1 && m.N <= 600
	case 6:
		ok = ok && m.N >= 0 && m.N <= 65535
	default:
		ok = ok && m.N == 0
	}
	if !ok {
		return api.ErrProtoField
	}
	return api.OK
}

// modelMayReply likewise.
func modelMayReply(r api.Reply) api.Errno {
	if r.Kind < 1 || r.Kind > 9 {
		return api.ErrProtoKind
	}
	low := 0
	if r.Kind == 3 {
		low = 1
	}
	high := []int{0, 131072, 0, 65535, 4294967295, 4294967295, 131072, 255, 4294967295, 4294967295}[r.Kind]
	ok := r.N >= low && r.N <= high
	ok = ok && (r.M == 0 || r.Kind == 4 && r.M > 0 && r.M <= 4294967295)
	ok = ok && (len(r.Data) == 0 || r.Kind == 5 && len(r.Data) <= 5760)
	if !ok {
		return api.ErrProtoField
	}
	return api.OK
}

// joined is the bytes of all of these, one behind the other.
func joined[T any](list []coded[T]) []byte {
	var all []byte
	for _, c := range list {
		all = append(all, c.bytes...)
	}
	return all
}

// told is what all of these are.
func told[T any](list []coded[T]) []T {
	var all []T
	for _, c := range list {
		all = append(all, c.is)
	}
	return slices.Clip(all)
}
