package debug

// command does what a line says; the reader stands behind its first word.
type command func(*Debugger, *reader) (string, error)

// commandOf looks a command up by its name.
func commandOf(name string) (command, bool) {
	does, known := map[string]command{
		"regs":   (*Debugger).regs,
		"set":    (*Debugger).set,
		"mem":    (*Debugger).mem,
		"poke":   (*Debugger).poke,
		"list":   (*Debugger).list,
		"break":  (*Debugger).addBreak,
		"watch":  (*Debugger).addWatch,
		"delete": (*Debugger).deletePoint,
		"points": (*Debugger).listPoints,
		"step":   (*Debugger).step,
		"run":    (*Debugger).run,
		"over":   (*Debugger).over,
		"out":    (*Debugger).out,
		"until":  (*Debugger).until,
		"trace":  (*Debugger).trace,
		"back":   (*Debugger).back,
		"press":  (*Debugger).press,
		"mark":   (*Debugger).mark,
		"return": (*Debugger).returnTo,
		"sum":    (*Debugger).sum,
		"sent":   (*Debugger).sent,
		"cycles": (*Debugger).tellCycles,
	}[name]
	return does, known
}
