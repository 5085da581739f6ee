package host

import (
	"slices"
	"sync"

	"arcade/api"
)

// turn is one that has begun, and the frame that is run in it.
type turn struct {
	slot    int
	conn    *connection
	frame   api.Frame
	picture []byte // as it is stored
	sum     int
}

// Turn gives so many workers a turn each, side by side: what they did, in the order in which they end; buffers for sessions that begin behind that are taken by the picks.
func (h *Host) Turn(workers int, order []int, picks []int) ([]api.Turn, api.Errno) {
	if h.crashed {
		return nil, api.ErrHostDead
	}
	if workers < 1 || workers > h.config.Workers {
		return nil, api.ErrArg
	}
	begun := h.beginTurns(workers)
	if len(begun) == 0 {
		return nil, api.ErrHostNone
	}
	runFrames(begun)
	p := &picker{left: picks}
	var ended []api.Turn
	for _, t := range inOrder(begun, order) {
		ended = append(ended, h.endTurn(t, p))
	}
	return ended, api.OK
}

// beginTurns gives turns to those whose turn it is, to as many as there are workers, or fewer.
func (h *Host) beginTurns(workers int) []turn {
	var begun []turn
	for slot := range workers {
		number, e := h.round.Begin(slot)
		if e != api.OK {
			break
		}
		begun = append(begun, turn{slot: slot, conn: h.conns[number]})
	}
	return begun
}

// runFrames runs the frames of turns side by side. Each touches its own console and its own turn alone.
func runFrames(begun []turn) {
	var all sync.WaitGroup
	all.Add(len(begun))
	for i := range begun {
		go func() {
			defer all.Done()
			begun[i].run()
		}()
	}
	all.Wait()
}

// run runs the frame. What it comes to is told when the turn ends.
func (t *turn) run() {
	s := t.conn.session
	t.frame, _ = s.console.Frame(s.buttons)
	t.picture = packed(t.frame.Pixels)
	t.sum = sumOf(t.picture)
}

// inOrder is the turns in the order in which they end.
func inOrder(begun []turn, order []int) []turn {
	left := slices.Clone(begun)
	var ends []turn
	for i := range begun {
		at := chosen(order, i, len(left))
		ends = append(ends, left[at])
		left = slices.Delete(left, at, at+1)
	}
	return ends
}

// chosen tells which one of so many ends next, as the i-th.
func chosen(order []int, i, many int) int {
	if i >= len(order) {
		return 0
	}
	number := order[i]
	if number < 0 {
		number = -(number + 1)
	}
	return number % many
}

// endTurn ends a turn: what it did.
func (h *Host) endTurn(t turn, p *picker) api.Turn {
	h.round.End(t.slot)
	c, s := t.conn, t.conn.session
	s.frames++
	s.left--
	s.life += t.frame.Clocks
	h.frames++
	h.pool.Store(s.arena, s.picture, 0, t.picture)
	c.reply(api.Reply{Kind: api.RepFrame, N: s.frames, M: t.sum})
	told := api.Turn{Conn: c.number, Frame: s.frames, Clocks: t.frame.Clocks, Last: s.life >= h.config.Life}
	if told.Last {
		h.finish(c)
		c.reply(api.Reply{Kind: api.RepQuota, N: s.frames})
	} else if s.left == 0 {
		h.round.Ready(c.number, false)
	}
	h.settle(c, p)
	return told
}
