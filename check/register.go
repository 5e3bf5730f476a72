package check

// A table of all bytes would be longer than a table may be. Because shifts are linear, one for each half of a byte suffices.
var (
	// lowHalf contains the registers that 8 shifts make of 0 to 15.
	lowHalf = [16]uint32{
		0x00000000, 0x77073096, 0xee0e612c, 0x990951ba, 0x076dc419, 0x706af48f, 0xe963a535, 0x9e6495a3,
		0x0edb8832, 0x79dcb8a4, 0xe0d5e91e, 0x97d2d988, 0x09b64c2b, 0x7eb17cbd, 0xe7b82d07, 0x90bf1d91,
	}

	// highHalf contains the registers that 8 shifts make of 0 to 15 times 16.
	highHalf = [16]uint32{
		0x00000000, 0x1db71064, 0x3b6e20c8, 0x26d930ac, 0x76dc4190, 0x6b6b51f4, 0x4db26158, 0x5005713c,
		0xedb88320, 0xf00f9344, 0xd6d6a3e8, 0xcb61b38c, 0x9b64c2b0, 0x86d3d2d4, 0xa00ae278, 0xbdbdf21c,
	}
)

// register is the 32 bits that the bytes of a checksum change.
type register uint32

// next returns the register after one more byte.
func (r register) next(b byte) register {
	low := byte(r) ^ b
	return r>>8 ^ register(lowHalf[low&15]^highHalf[low>>4])
}
