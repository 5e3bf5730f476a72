package wire

// position is an offset within bytes.
type position struct {
	all    []byte
	offset int
}

// left returns the bytes from the offset on.
func (p *position) left() []byte { return p.all[p.offset:] }

// end returns the offset after the last byte.
func (p *position) end() int { return len(p.all) }

// pass moves the offset after the next n bytes and returns these.
func (p *position) pass(n int) []byte {
	b := p.left()[:n]
	p.offset += n
	return b
}
