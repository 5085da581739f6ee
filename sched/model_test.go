package sched_test

import (
	"slices"

	"arcade/api"
)

// model is a second sched without a round: each number has the time at which it went to the end, and the round is reckoned from these.
type model struct {
	slots int
	since map[int]int      // of the numbers that are in the round
	ready map[int]struct{} // numbers that are, and are in the round
	doing map[int]int      // by the slots that are not free
	clock int
}

func modelOf(slots int) *model {
	return &model{slots: slots, since: map[int]int{}, ready: map[int]struct{}{}, doing: map[int]int{}}
}

func (m *model) last(id int) {
	m.clock++
	m.since[id] = m.clock
}

func (m *model) isIn(id int) bool {
	_, in := m.since[id]
	return in
}

func (m *model) isDone(id int) bool {
	for _, other := range m.doing {
		if other == id {
			return true
		}
	}
	return false
}

func (m *model) Add(id int) api.Errno {
	switch {
	case id < 0:
		return api.ErrArg
	case m.isIn(id):
		return api.ErrSchedId
	case len(m.since) == 64:
		return api.ErrSchedFull
	}
	m.last(id)
	return api.OK
}

func (m *model) Remove(id int) api.Errno {
	if !m.isIn(id) {
		return api.ErrSchedId
	}
	delete(m.since, id)
	delete(m.ready, id)
	return api.OK
}

func (m *model) Ready(id int, ready bool) api.Errno {
	if !m.isIn(id) {
		return api.ErrSchedId
	}
	delete(m.ready, id)
	if ready {
		m.ready[id] = struct{}{}
	}
	return api.OK
}

func (m *model) Begin(slot int) (int, api.Errno) {
	if _, busy := m.doing[slot]; busy || slot < 0 || slot >= m.slots {
		return 0, api.ErrSchedSlot
	}
	next := -1
	for id := range m.ready {
		if !m.isDone(id) && (next < 0 || m.since[id] < m.since[next]) {
			next = id
		}
	}
	if next < 0 {
		return 0, api.ErrSchedNone
	}
	m.last(next)
	m.doing[slot] = next
	return next, api.OK
}

func (m *model) End(slot int) (int, api.Errno) {
	id, busy := m.doing[slot]
	if !busy {
		return 0, api.ErrSchedSlot
	}
	delete(m.doing, slot)
	return id, api.OK
}

func (m *model) Round() []int {
	var list []int
	for id := range m.since {
		list = append(list, id)
	}
	slices.SortFunc(list, func(a, b int) int { return m.since[a] - m.since[b] })
	return list
}
