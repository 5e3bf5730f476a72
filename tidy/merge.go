package tidy

import (
	"graft/api"
	"graft/command"
	"graft/extent"
)

// mergeable returns the number of commands at the beginning of a list, which has some, that are merged into one.
func mergeable(l []api.Command) int {
	n := 1
run:
	for ; n < len(l); n++ {
		// What is merged so far has the kind of its last command, and ends where that one does.
		last, c := l[n-1], l[n]
		source, copied := command.Source(last)
		switch {
		case c.Kind != last.Kind, c.To != extent.End(command.Target(last)):
			break run
		case copied && c.From != extent.End(source):
			break run
		}
	}
	return n
}

// combine merges commands into one.
func combine(l []api.Command) api.Command {
	first, last := l[0], l[len(l)-1]
	if first.Kind == api.Copy {
		return command.Copy(first.To, first.From, extent.End(command.Target(last))-first.To)
	}
	// The bytes are moved only once, however many commands there are.
	parts := make([][]byte, len(l))
	for i, c := range l {
		parts[i] = c.Data
	}
	return command.Literal(first.To, parts...)
}
