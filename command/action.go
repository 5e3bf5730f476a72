package command

import (
	"graft/api"
	"graft/extent"
)

// kind is a kind of commands.
type kind int

const (
	unknown kind = iota // neither of the kinds of package api
	copying             // api.Copy
	literal             // api.Literal
)

// target is the extent that a command writes.
type target api.Extent

// bytes returns the extent as one of package api.
func (t target) bytes() api.Extent { return api.Extent(t) }

// valid reports whether the extent is valid.
func (t target) valid() bool { return extent.Valid(t.bytes()) }

// contains reports whether an extent belongs to the target.
func (t target) contains(e api.Extent) bool { return extent.Contains(t.bytes(), e) }

// overlaps reports whether an extent has bytes in common with the target.
func (t target) overlaps(e api.Extent) bool {
	_, ok := extent.Overlap(t.bytes(), e)
	return ok
}

// action describes what a command writes and reads, in the same way for all kinds.
type action struct {
	target
	kind   kind
	source api.Extent // has no bytes unless the kind is copying
	extra  bool       // whether fields are in use that the kind has no use for
}

// describe returns the action of a command.
func describe(c api.Command) action {
	switch c.Kind {
	case api.Copy:
		return action{
			target: target{Off: c.To, Len: c.Len},
			kind:   copying,
			source: api.Extent{Off: c.From, Len: c.Len},
			extra:  len(c.Data) > 0,
		}
	case api.Literal:
		return action{
			target: target{Off: c.To, Len: len(c.Data)},
			kind:   literal,
			extra:  c.From != 0 || c.Len != 0,
		}
	}
	return action{}
}
