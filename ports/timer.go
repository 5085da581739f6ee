package ports

import "arcade/api"

const (
	letsGo     = 4 // CONTROL's bit that lets the timer go
	whichDrive = 3 // its bits that say which bit of the counter drives it

	alarmClocks = 4
)

// drivers are the numbers of the counter's bits that drive the timer, by what CONTROL says.
var drivers = [4]uint{9, 3, 5, 7}

func (p *Ports) driver() uint16 {
	return 1 << drivers[p.control&whichDrive]
}

func (p *Ports) drive() bool {
	return p.control&letsGo != 0 && p.counter&p.driver() != 0
}

// untilTick tells in how many clocks the drive falls next; 0, if it never does. It falls where the counter's bits up to it all become 0.
func (p *Ports) untilTick() int {
	if p.control&letsGo == 0 {
		return 0
	}
	round := 2 * p.driver()
	return int(round - p.counter%round)
}

// count lets the counter grow by clocks in which the drive falls at the last one, if at all.
func (p *Ports) count(clocks int) {
	falls := clocks == p.untilTick()
	p.counter += uint16(clocks)
	if falls {
		p.tick()
	}
}

func (p *Ports) tick() {
	p.timer++
	if p.timer == 0 {
		p.alarm = alarmClocks
	}
}

// ring is what comes of the alarm.
func (p *Ports) ring() {
	p.timer = p.again
	p.ask(api.AskTimer)
}

// whileDriveChanges does what may change the drive without a clock, and lets the timer tick if it falls by that.
func (p *Ports) whileDriveChanges(change func()) {
	was := p.drive()
	change()
	if was && !p.drive() {
		p.tick()
	}
}

func (p *Ports) readDivider() byte {
	return byte(p.counter >> 8)
}

func (p *Ports) writeDivider(byte) {
	p.whileDriveChanges(func() { p.counter = 0 })
}

func (p *Ports) readTimer() byte {
	return p.timer
}

func (p *Ports) writeTimer(value byte) {
	p.timer = value
	p.alarm = 0
}

func (p *Ports) readAgain() byte {
	return p.again
}

func (p *Ports) writeAgain(value byte) {
	p.again = value
}

func (p *Ports) readControl() byte {
	return p.control | ^byte(controlBits)
}

func (p *Ports) writeControl(value byte) {
	p.whileDriveChanges(func() { p.control = value & controlBits })
}
