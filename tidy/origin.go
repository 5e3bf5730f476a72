package tidy

import (
	"graft/api"
	"graft/command"
	"graft/extent"
)

// origin returns the origin of a byte that a command writes.
func origin(c api.Command, off int) Origin {
	i := off - c.To
	if c.Kind == api.Copy {
		return Origin{Copied: true, From: c.From + i}
	}
	return Origin{Value: c.Data[i]}
}

// agree reports whether a part of what two commands write has the same origins in both.
func agree(a, b api.Command, part api.Extent) bool {
	for off := part.Off; off < extent.End(part); off++ {
		o := origin(a, off)
		if o != origin(b, off) {
			return false
		}
		if o.Copied {
			// From here on, both copy the same bytes.
			break
		}
	}
	return true
}

// after returns the commands that write bytes after a part, in ascending order; the first one writes the part.
func after(l []api.Command, part api.Extent) []api.Command {
	if extent.End(command.Target(l[0])) == extent.End(part) {
		return l[1:]
	}
	return l
}
