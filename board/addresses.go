package board

import "arcade/api"

// Where the parts end: each has the addresses from the end of the one ahead on.
const (
	romEnd     = 0x8000
	vramEnd    = 0xa000
	ramEnd     = 0xc000
	workEnd    = 0xe000
	echoEnd    = 0xfe00
	oamEnd     = 0xfea0
	gapEnd     = 0xff00
	portsEnd   = 0xff10
	soundEnd   = 0xff40
	aheadEnd   = 0xff46
	moverEnd   = 0xff47
	pictureEnd = 0xff4c
	unusedEnd  = 0xff80
	highEnd    = 0xffff
	letEnd     = 0x10000
)

// nothing is what is read where there is nothing.
const nothing = 0xff

// row is who has the addresses below an end.
type row struct {
	end   int
	read  func(b *Board, addr int) int
	write func(b *Board, addr int, v int)
}

// rowOf looks up who has an address.
func rowOf(addr int) row {
	rows := [...]row{
		{romEnd, (*Board).readCartridge, (*Board).writeCartridge},
		{vramEnd, (*Board).readPicture, (*Board).writePicture},
		{ramEnd, (*Board).readCartridge, (*Board).writeCartridge},
		{workEnd, (*Board).readWork, (*Board).writeWork},
		{echoEnd, (*Board).readWork, (*Board).writeWork},
		{oamEnd, (*Board).readPicture, (*Board).writePicture},
		{gapEnd, (*Board).readNothing, (*Board).writeNothing},
		{portsEnd, (*Board).readPort, (*Board).writePort},
		{soundEnd, (*Board).readSound, (*Board).writeSound},
		{aheadEnd, (*Board).readPicture, (*Board).writePicture},
		{moverEnd, (*Board).readMover, (*Board).writeMover},
		{pictureEnd, (*Board).readPicture, (*Board).writePicture},
		{unusedEnd, (*Board).readNothing, (*Board).writeNothing},
		{highEnd, (*Board).readHigh, (*Board).writeHigh},
		{letEnd, (*Board).readLet, (*Board).writeLet},
	}
	at := 0
	for addr >= rows[at].end {
		at++
	}
	return rows[at]
}

func isAddress(addr int) bool {
	return addr >= 0 && addr < letEnd
}

// read is what the processor reads while no byte is moved.
func (b *Board) read(addr int) int {
	return rowOf(addr).read(b, addr)
}

// write is what it writes then.
func (b *Board) write(addr int, v int) {
	rowOf(addr).write(b, addr, v)
}

func (b *Board) readCartridge(addr int) int {
	if b.cartridge == nil {
		return nothing
	}
	return int(b.cartridge.Read(addr))
}

func (b *Board) writeCartridge(addr int, v int) {
	if b.cartridge != nil {
		b.cartridge.Write(addr, byte(v))
	}
}

func (b *Board) readPicture(addr int) int {
	return b.picture.Read(addr)
}

func (b *Board) writePicture(addr int, v int) {
	b.picture.Write(addr, v)
}

func (b *Board) readPort(addr int) int {
	v, e := b.ports.Read(addr)
	if e != api.OK {
		return nothing
	}
	return v
}

func (b *Board) writePort(addr int, v int) {
	b.ports.Write(addr, v)
}

func (b *Board) readNothing(addr int) int {
	return nothing
}

func (b *Board) writeNothing(addr int, v int) {
}
