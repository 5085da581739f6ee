package arena

import "slices"

// list is things in an order: a class's free buffers by rising numbers, an arena's as they were taken.
type list[T any] []T

// find tells where the first one stands of which something holds; behind the last one, if it holds of none.
func (l list[T]) find(holds func(thing T) bool) int {
	if at := slices.IndexFunc(l, holds); at >= 0 {
		return at
	}
	return len(l)
}

// put lays one in, ahead of what stands there.
func (l *list[T]) put(at int, thing T) {
	*l = slices.Insert(*l, at, thing)
}

// draw takes one out.
func (l *list[T]) draw(at int) T {
	thing := (*l)[at]
	*l = slices.Delete(*l, at, at+1)
	return thing
}
