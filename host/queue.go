package host

// queue is things that wait, from the front on.
type queue[T any] []T

// put lays one in behind all others.
func (q *queue[T]) put(thing T) {
	*q = append(*q, thing)
}

// take takes the first one out, if there is one.
func (q *queue[T]) take() (T, bool) {
	var none T
	if len(*q) == 0 {
		return none, false
	}
	thing := (*q)[0]
	(*q)[0] = none // or the list would keep what is done
	*q = (*q)[1:]
	if len(*q) == 0 {
		*q = nil
	}
	return thing, true
}
