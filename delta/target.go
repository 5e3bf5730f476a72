package delta

import (
	"cmp"
	"iter"
	"slices"

	"graft/api"
	"graft/command"
	"graft/extent"
)

// target is the extent that a command writes, with the index of the command.
type target struct {
	bytes api.Extent
	index int
}

// ascending returns the targets of commands in ascending order of their offsets.
func ascending(l []api.Command) []target {
	t := make([]target, len(l))
	for i, c := range l {
		t[i] = target{bytes: command.Target(c), index: i}
	}
	slices.SortFunc(t, func(a, b target) int { return cmp.Compare(a.bytes.Off, b.bytes.Off) })
	return t
}

// upTo yields the targets of the commands up to an index, in the order in which they are given.
func upTo(l []target, index int) iter.Seq[api.Extent] {
	return func(yield func(api.Extent) bool) {
		for _, t := range l {
			if t.index <= index && !yield(t.bytes) {
				return
			}
		}
	}
}

// overlap reports whether targets in ascending order have bytes in common.
func overlap(targets iter.Seq[api.Extent]) bool {
	end := 0
	for t := range targets {
		// If a target overlaps a later one, it also overlaps the next one, since none is empty.
		if t.Off < end {
			return true
		}
		end = extent.End(t)
	}
	return false
}

// gap returns the first offset that belongs to none of some targets, which are in ascending order and do not overlap.
func gap(targets iter.Seq[api.Extent]) int {
	end := 0
	for t := range targets {
		if t.Off > end {
			break
		}
		end = extent.End(t)
	}
	return end
}
