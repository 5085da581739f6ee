package ports

import "arcade/api"

// due is something that comes by the clocks: in how many of them (0: it does not come), and what it is to let some go by, of which it comes at the last one at most.
type due struct {
	left func() int
	pass func(clocks int)
}

// countdown is a due that has some clocks to go, and comes once.
func countdown(left *int, come func()) due {
	return due{
		left: func() int { return *left },
		pass: func(clocks int) {
			if *left == 0 {
				return
			}
			*left -= clocks
			if *left == 0 {
				come()
			}
		},
	}
}

// Step lets some clocks go by.
func (p *Ports) Step(clocks int) api.Errno {
	if clocks < 0 || clocks > api.MaxClocks {
		return api.ErrArg
	}
	dues := [...]due{ // in the order in which one clock does them
		countdown(&p.alarm, func() { p.ring() }),
		{func() int { return p.untilTick() }, func(clocks int) { p.count(clocks) }},
		countdown(&p.transfer, func() { p.send() }),
	}
	for clocks > 0 {
		many := soonest(dues[:], clocks)
		for _, d := range dues {
			d.pass(many)
		}
		clocks -= many
	}
	return api.OK
}

// soonest tells how many of the clocks go by until something comes, that one too; all of them, if nothing does.
func soonest(dues []due, clocks int) int {
	for _, d := range dues {
		if left := d.left(); left > 0 {
			clocks = min(clocks, left)
		}
	}
	return clocks
}
