package lang

import (
	"strconv"
	"strings"

	"arcade/api"
	"arcade/asm"
)

// Where the machine has what the program alone knows of. The globals stand behind the input; the stack grows down towards them. A function that runs has at most 24 parameters and variables there, and some 120 words that wait for others to be worked out: there is room for 16 of them beside all globals.
const (
	globalsAt = 0xc600
	stackTop  = 0xe000
	runningAt = 0xff80 // how many functions run
	unreadAt  = 0xff81 // how many numbers of the input are left
	nextAt    = 0xff82 // where the next one of them is: a word
	roundsAt  = 0xff84 // how many rounds a division has left
)

// settings are the names for numbers that the routines use.
func settings() string {
	var text strings.Builder
	for _, s := range []api.Name{
		{Name: "first", Value: api.LangOrg},
		{Name: "status", Value: api.LangStatus},
		{Name: "worth", Value: api.LangValue},
		{Name: "place", Value: api.LangPlace},
		{Name: "count", Value: api.LangCount},
		{Name: "bytes", Value: api.LangOut},
		{Name: "numbers", Value: api.LangIn},
		{Name: "most", Value: api.MaxOut},
		{Name: "calls", Value: api.MaxCalls},
		{Name: "done", Value: api.LangDone},
		{Name: "trapped", Value: api.LangTrap},
		{Name: "toofar", Value: api.TrapIndex},
		{Name: "bynought", Value: api.TrapDivide},
		{Name: "toodeep", Value: api.TrapDeep},
		{Name: "toomany", Value: api.TrapOut},
		{Name: "stack", Value: stackTop},
		{Name: "running", Value: runningAt},
		{Name: "unread", Value: unreadAt},
		{Name: "next", Value: nextAt},
		{Name: "rounds", Value: roundsAt},
	} {
		text.WriteString(s.Name + " equ " + strconv.Itoa(s.Value) + "\n")
	}
	return text.String()
}

// machine is the code of the routines, and where each of them is.
func machine() ([]byte, map[string]int) {
	source := settings() + routines
	image, _, _ := asm.Assemble(source) // it is the same each time: there is nothing wrong with it
	names, _, _ := asm.Names(source)
	addresses := map[string]int{}
	for _, n := range names {
		addresses[n.Name] = n.Value
	}
	return image.Code, addresses
}
