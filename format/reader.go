package format

import (
	"graft/api"
	"graft/wire"
)

// reader reads a delta from its encoding. After the first error, it reads zero values.
type reader struct{ *wire.Reader }

// body reads what follows the Kind and To of a command.
type body func(to int) api.Command

// delta reads a delta, after which nothing may follow.
func (r reader) delta() api.Delta {
	var d api.Delta
	r.Expect([]byte(magic), api.ErrMagic)
	r.Expect([]byte{version}, api.ErrVersion)
	d.OldLen, d.NewLen = r.Length(), r.Length()
	d.OldHash, d.NewHash = r.hash(), r.hash()
	d.Commands = r.commands(int(r.Uint(countSize)))
	if r.Rest() > 0 {
		r.Fail(api.ErrExtra, r.At())
	}
	return d
}

// hash reads a digest.
func (r reader) hash() [hashSize]byte {
	var h [hashSize]byte
	copy(h[:], r.Bytes(hashSize))
	return h
}

// commands reads n commands, or fewer if an error occurs.
func (r reader) commands(n int) []api.Command {
	bodies := map[uint64]body{
		api.Copy:    r.copying,
		api.Literal: r.literal,
	}
	// No memory is reserved for n commands: the bytes may end long before.
	var l []api.Command
	for range n {
		c := r.command(bodies)
		if r.Fault() != (api.Fault{}) {
			break
		}
		l = append(l, c)
	}
	return l
}

// command reads a command.
func (r reader) command(bodies map[uint64]body) api.Command {
	first := r.At()
	read, ok := bodies[r.Uint(kindSize)]
	if !ok {
		r.Fail(api.ErrKind, first)
		return api.Command{}
	}
	return read(r.Length())
}

// copying reads the rest of a Copy.
func (r reader) copying(to int) api.Command {
	from, n := r.Length(), r.Length()
	return api.Command{Kind: api.Copy, To: to, From: from, Len: n}
}

// literal reads the rest of a Literal.
func (r reader) literal(to int) api.Command {
	return api.Command{Kind: api.Literal, To: to, Data: r.Bytes(r.Length())}
}
